/- Words and walks: McVA8 McVB8 McVC8 McVD8 McU8. -/
import Derived.Test.YtcpggonengkgiaaGreatDoorG30
import Derived.Test.YtcpggonengkgiaaGreatDoorG33
import Derived.Test.YtcpggonengkgiaaGreatDoorG4
import Derived.Deep.RegionWith
import Derived.Deep.RegionHeld3
import Derived.Laws.EntriesVeiled
namespace Go.Proofs.YtcpggonengkgiaaGreatDoor
open Go Go.RowKit Go.Deep
set_option maxRecDepth 8000
abbrev CT8:TypeId:=140
abbrev RT13_8:TypeId:=93
abbrev cl8C:Array Value:=#[.func (.func 55) #[] #[],.func (.func 56) #[] #[],.func (.func 57) #[] #[],.func (.func 58) #[] #[],.func (.func 59) #[] #[],.func (.func 60) #[] #[],.func (.func 61) #[] #[],.func (.func 62) #[] #[],.func (.func 63) #[] #[],.func (.func 64) #[] #[]]
section
variable {w:World} {b g:Nat} {m:M13} {x:V13} {s:L8}
theorem fld8 (w:World) (b:Nat):Calls Tryz.prog 55 #[.pointer (some ⟨b,0,none⟩)] w fun e w'=>e = .returned (.pointer (some ⟨b,1,none⟩))/\w'=w:=by
 go_enter Tryz.func55,Tryz.ntmps55
 go_wp2
 go_ret
 exact ⟨rfl,rfl⟩
theorem cap8 (w:World) (s:L8) (u1:Value) (hf:(∃ F n d,u1 = .slice F n d)):Calls Tryz.prog 64 #[.agg (l8C s.c u1)] w fun e w'=>e = .returned (.int .i64 (s.c:Nat))/\Below w.heap.size w w':=by
 obtain ⟨F0,n0,d0,rfl⟩:=hf
 go_enter Tryz.func64,Tryz.ntmps64
 go_wp2
 go_ret
 exact ⟨rfl,low_one w _⟩
set_option maxHeartbeats 2000000 in
theorem touch8c (PO:Pol8Ok) (hc:w.heap[g]? = some (.cells cl8C CT8 (0,0))) (h:S13 w PT13 b m x) (hps:m.ps = .lru s) (ok:s.Ok) (k:Nat) (hk:k < 18446744073709551616) :
  Calls Tryz.prog 136 #[.pointer (some ⟨b,0,none⟩),.int .u64 (k:Nat),.pointer (some ⟨g,0,none⟩)] w fun e w'=>e = .returned (.tuple #[])/\Ps w b m x (.lru (s.touch k)) w':=by
 have hb:=h.lt
 have hpol:=h.st.pol
 rw [hps] at hpol
 obtain ⟨hp,hc0,hst⟩:=hpol
 have HF:=Lib.hid (fld8 w b)
 have hcl:=(head_row hc).lt
 have HLD:Hid (∀ W:World,Below w.heap.size w W->W.cell? ⟨b,1,none⟩=some (.int .i64 (s.c:Nat))/\W.cell? ⟨b,2,none⟩=some (.slice x.l8.F x.l8.n x.l8.c)/\W.cell? ⟨g,2,none⟩=some (.func (.func 57) #[] #[])):=Lib.hid (fun W hW=>by
  obtain ⟨-,p1,p2,-⟩:=box_cells ((hW.block b hb).trans h.box)
  rw [hc0] at p1
  exact ⟨p1,p2,(head_row ((hW.block g hcl).trans hc)).cell (i:=2) (by simp)⟩)
 have HFR:Hid (∀ W:World,Below w.heap.size w W->W.frozen? ⟨b,1,none⟩=false/\W.frozen? ⟨b,2,none⟩=false):=Lib.hid (fun W hW=>⟨box_free ((hW.block b hb).trans h.box) 1,box_free ((hW.block b hb).trans h.box) 2⟩)
 have HEND:Hid (∀ W F0 n0 d0,Below w.heap.size w W->St8 W (s.touch k) (.slice F0 n0 d0)->Ps w b m x (.lru (s.touch k)) ((W.setCell ⟨b,1,none⟩ (.int .i64 ((s.touch k).c:Nat))).setCell ⟨b,2,none⟩ (.slice F0 n0 d0))/\∀ o out,KV W o out->KV ((W.setCell ⟨b,1,none⟩ (.int .i64 ((s.touch k).c:Nat))).setCell ⟨b,2,none⟩ (.slice F0 n0 d0)) o out):=Lib.hid (fun W F0 n0 d0 hW hs=>by
  obtain ⟨h1,h2⟩:=box_set8 ((h.below hW).box) ((s.touch k).c:Nat) F0 n0 d0
  have h3:=(h.below hW).st.only h2 (h.below hW).bx
  exact ⟨⟨(Only.of_below hW).trans h2 (by simp),{ x with c8:=((s.touch k).c:Nat),l8:=⟨F0,n0,d0⟩ },rfl,⟨h1,h.ty,⟨⟨hp,rfl,⟨hs.g1.only h2 (h.below hW).bx⟩⟩,h3.prs,h3.hi,h3.mi,h3.ev⟩⟩⟩,fun o out ho=>ho.only h2 (h.below hW).bx⟩)
 have c0:w.cell? ⟨g,0,none⟩=some (.func (.func 55) #[] #[]):=(head_row hc).cell (i:=0) (by simp)
 obtain ⟨k0,k1,k2⟩:=HLD.out w (Below.refl _ _)
 have KT:Hid (∀ W,Below w.heap.size w W->Calls Tryz.prog 57 #[(.agg (l8C s.c (.slice x.l8.F x.l8.n x.l8.c))),.int .u64 (k:Nat)] W (P8 W (s.touch k))):=Lib.hid (fun W hW=>PO.touch (hst.below hW) ok k hk)
 clear hst hc0 hp h hps hc
 go_enter Tryz.func136,Tryz.ntmps136
 go_wp2_with (go_at_call 55;refine HF.out.mono ?_;rintro e w1 ⟨rfl,rfl⟩)
 go_region_with (go_at_call 57;refine (KT.out _ (below_drewn (Below.refl _ _) _)).mono ?_;rintro e w5 ⟨u50,rfl,hb5,hk5⟩;obtain ⟨F50,n50,d50,rfl⟩:=hk5.form1;have hbA:=(below_drewn (Below.refl w1.heap.size w1) _).trans hb5;obtain ⟨z0,z1⟩:=HFR.out w5 hbA;obtain ⟨k0,k1,k2⟩:=HLD.out w5 hbA)
 all_goals
  go_wp2
  go_end0
  exact ⟨rfl,(HEND.out _ _ _ _ hbA hk5).1⟩
set_option maxHeartbeats 2000000 in
theorem adm8c (PO:Pol8Ok) (hc:w.heap[g]? = some (.cells cl8C CT8 (0,0))) (h:S13 w PT13 b m x) (hps:m.ps = .lru s) (ok:s.Ok) (k:Nat) (hk:k < 18446744073709551616) :
  Calls Tryz.prog 137 #[.pointer (some ⟨b,0,none⟩),.int .u64 (k:Nat),.pointer (some ⟨g,0,none⟩)] w fun e w'=>∃ v,e = .returned v/\Ps w b m x (.lru (s.adm k)) w'/\KV w' v (s.admitOut k):=by
 have hb:=h.lt
 have hpol:=h.st.pol
 rw [hps] at hpol
 obtain ⟨hp,hc0,hst⟩:=hpol
 have HF:=Lib.hid (fld8 w b)
 have hcl:=(head_row hc).lt
 have HLD:Hid (∀ W:World,Below w.heap.size w W->W.cell? ⟨b,1,none⟩=some (.int .i64 (s.c:Nat))/\W.cell? ⟨b,2,none⟩=some (.slice x.l8.F x.l8.n x.l8.c)/\W.cell? ⟨g,3,none⟩=some (.func (.func 58) #[] #[])):=Lib.hid (fun W hW=>by
  obtain ⟨-,p1,p2,-⟩:=box_cells ((hW.block b hb).trans h.box)
  rw [hc0] at p1
  exact ⟨p1,p2,(head_row ((hW.block g hcl).trans hc)).cell (i:=3) (by simp)⟩)
 have HFR:Hid (∀ W:World,Below w.heap.size w W->W.frozen? ⟨b,1,none⟩=false/\W.frozen? ⟨b,2,none⟩=false):=Lib.hid (fun W hW=>⟨box_free ((hW.block b hb).trans h.box) 1,box_free ((hW.block b hb).trans h.box) 2⟩)
 have HEND:Hid (∀ W F0 n0 d0,Below w.heap.size w W->St8 W (s.adm k) (.slice F0 n0 d0)->Ps w b m x (.lru (s.adm k)) ((W.setCell ⟨b,1,none⟩ (.int .i64 ((s.adm k).c:Nat))).setCell ⟨b,2,none⟩ (.slice F0 n0 d0))/\∀ o out,KV W o out->KV ((W.setCell ⟨b,1,none⟩ (.int .i64 ((s.adm k).c:Nat))).setCell ⟨b,2,none⟩ (.slice F0 n0 d0)) o out):=Lib.hid (fun W F0 n0 d0 hW hs=>by
  obtain ⟨h1,h2⟩:=box_set8 ((h.below hW).box) ((s.adm k).c:Nat) F0 n0 d0
  have h3:=(h.below hW).st.only h2 (h.below hW).bx
  exact ⟨⟨(Only.of_below hW).trans h2 (by simp),{ x with c8:=((s.adm k).c:Nat),l8:=⟨F0,n0,d0⟩ },rfl,⟨h1,h.ty,⟨⟨hp,rfl,⟨hs.g1.only h2 (h.below hW).bx⟩⟩,h3.prs,h3.hi,h3.mi,h3.ev⟩⟩⟩,fun o out ho=>ho.only h2 (h.below hW).bx⟩)
 have c0:w.cell? ⟨g,0,none⟩=some (.func (.func 55) #[] #[]):=(head_row hc).cell (i:=0) (by simp)
 obtain ⟨k0,k1,k2⟩:=HLD.out w (Below.refl _ _)
 have KT:Hid (∀ W,Below w.heap.size w W->Calls Tryz.prog 58 #[(.agg (l8C s.c (.slice x.l8.F x.l8.n x.l8.c))),.int .u64 (k:Nat)] W (P8o W (s.adm k) (s.admitOut k))):=Lib.hid (fun W hW=>PO.adm (hst.below hW) ok k hk)
 clear hst hc0 hp h hps hc
 go_enter Tryz.func137,Tryz.ntmps137
 go_wp2_with (go_at_call 55;refine HF.out.mono ?_;rintro e w1 ⟨rfl,rfl⟩)
 go_region_with (go_at_call 58;refine (KT.out _ (below_drewn (Below.refl _ _) _)).mono ?_;rintro e w5 ⟨u50,o5,he,hb5,hk5,ho5⟩;obtain ⟨F50,n50,d50,rfl⟩:=hk5.form1;subst he;have hbA:=(below_drewn (Below.refl w1.heap.size w1) _).trans hb5;obtain ⟨z0,z1⟩:=HFR.out w5 hbA;obtain ⟨k0,k1,k2⟩:=HLD.out w5 hbA)
 all_goals
  go_wp2
  go_ret
  exact ⟨_,rfl,(HEND.out _ _ _ _ hbA hk5).1,(HEND.out _ _ _ _ hbA hk5).2 _ _ ho5⟩
set_option maxHeartbeats 2000000 in
theorem drop8c (PO:Pol8Ok) (hc:w.heap[g]? = some (.cells cl8C CT8 (0,0))) (h:S13 w PT13 b m x) (hps:m.ps = .lru s) (ok:s.Ok) (k:Nat) (hk:k < 18446744073709551616) :
  Calls Tryz.prog 138 #[.pointer (some ⟨b,0,none⟩),.int .u64 (k:Nat),.pointer (some ⟨g,0,none⟩)] w fun e w'=>e = .returned (.tuple #[])/\Ps w b m x (.lru (s.drop k)) w':=by
 have hb:=h.lt
 have hpol:=h.st.pol
 rw [hps] at hpol
 obtain ⟨hp,hc0,hst⟩:=hpol
 have HF:=Lib.hid (fld8 w b)
 have hcl:=(head_row hc).lt
 have HLD:Hid (∀ W:World,Below w.heap.size w W->W.cell? ⟨b,1,none⟩=some (.int .i64 (s.c:Nat))/\W.cell? ⟨b,2,none⟩=some (.slice x.l8.F x.l8.n x.l8.c)/\W.cell? ⟨g,4,none⟩=some (.func (.func 59) #[] #[])):=Lib.hid (fun W hW=>by
  obtain ⟨-,p1,p2,-⟩:=box_cells ((hW.block b hb).trans h.box)
  rw [hc0] at p1
  exact ⟨p1,p2,(head_row ((hW.block g hcl).trans hc)).cell (i:=4) (by simp)⟩)
 have HFR:Hid (∀ W:World,Below w.heap.size w W->W.frozen? ⟨b,1,none⟩=false/\W.frozen? ⟨b,2,none⟩=false):=Lib.hid (fun W hW=>⟨box_free ((hW.block b hb).trans h.box) 1,box_free ((hW.block b hb).trans h.box) 2⟩)
 have HEND:Hid (∀ W F0 n0 d0,Below w.heap.size w W->St8 W (s.drop k) (.slice F0 n0 d0)->Ps w b m x (.lru (s.drop k)) ((W.setCell ⟨b,1,none⟩ (.int .i64 ((s.drop k).c:Nat))).setCell ⟨b,2,none⟩ (.slice F0 n0 d0))/\∀ o out,KV W o out->KV ((W.setCell ⟨b,1,none⟩ (.int .i64 ((s.drop k).c:Nat))).setCell ⟨b,2,none⟩ (.slice F0 n0 d0)) o out):=Lib.hid (fun W F0 n0 d0 hW hs=>by
  obtain ⟨h1,h2⟩:=box_set8 ((h.below hW).box) ((s.drop k).c:Nat) F0 n0 d0
  have h3:=(h.below hW).st.only h2 (h.below hW).bx
  exact ⟨⟨(Only.of_below hW).trans h2 (by simp),{ x with c8:=((s.drop k).c:Nat),l8:=⟨F0,n0,d0⟩ },rfl,⟨h1,h.ty,⟨⟨hp,rfl,⟨hs.g1.only h2 (h.below hW).bx⟩⟩,h3.prs,h3.hi,h3.mi,h3.ev⟩⟩⟩,fun o out ho=>ho.only h2 (h.below hW).bx⟩)
 have c0:w.cell? ⟨g,0,none⟩=some (.func (.func 55) #[] #[]):=(head_row hc).cell (i:=0) (by simp)
 obtain ⟨k0,k1,k2⟩:=HLD.out w (Below.refl _ _)
 have KT:Hid (∀ W,Below w.heap.size w W->Calls Tryz.prog 59 #[(.agg (l8C s.c (.slice x.l8.F x.l8.n x.l8.c))),.int .u64 (k:Nat)] W (P8 W (s.drop k))):=Lib.hid (fun W hW=>PO.drop (hst.below hW) ok k hk)
 clear hst hc0 hp h hps hc
 go_enter Tryz.func138,Tryz.ntmps138
 go_wp2_with (go_at_call 55;refine HF.out.mono ?_;rintro e w1 ⟨rfl,rfl⟩)
 go_region_with (go_at_call 59;refine (KT.out _ (below_drewn (Below.refl _ _) _)).mono ?_;rintro e w5 ⟨u50,rfl,hb5,hk5⟩;obtain ⟨F50,n50,d50,rfl⟩:=hk5.form1;have hbA:=(below_drewn (Below.refl w1.heap.size w1) _).trans hb5;obtain ⟨z0,z1⟩:=HFR.out w5 hbA;obtain ⟨k0,k1,k2⟩:=HLD.out w5 hbA)
 all_goals
  go_wp2
  go_end0
  exact ⟨rfl,(HEND.out _ _ _ _ hbA hk5).1⟩
set_option maxHeartbeats 2000000 in
theorem resize8c (PO:Pol8Ok) (hc:w.heap[g]? = some (.cells cl8C CT8 (0,0))) (h:S13 w PT13 b m x) (hps:m.ps = .lru s) (ok:s.Ok) (n:Int) (hn1 : -9223372036854775808<=n) (hn2:n<=9223372036854775807) :
  Calls Tryz.prog 133 #[.pointer (some ⟨b,0,none⟩),.int .i64 n,.pointer (some ⟨g,0,none⟩)] w fun e w'=>∃ v,e = .returned v/\Ps w b m x (.lru (s.resize n)) w'/\KV w' v (s.resizeOut n):=by
 have hb:=h.lt
 have hpol:=h.st.pol
 rw [hps] at hpol
 obtain ⟨hp,hc0,hst⟩:=hpol
 have HF:=Lib.hid (fld8 w b)
 have hcl:=(head_row hc).lt
 have HLD:Hid (∀ W:World,Below w.heap.size w W->W.cell? ⟨b,1,none⟩=some (.int .i64 (s.c:Nat))/\W.cell? ⟨b,2,none⟩=some (.slice x.l8.F x.l8.n x.l8.c)/\W.cell? ⟨g,5,none⟩=some (.func (.func 60) #[] #[])):=Lib.hid (fun W hW=>by
  obtain ⟨-,p1,p2,-⟩:=box_cells ((hW.block b hb).trans h.box)
  rw [hc0] at p1
  exact ⟨p1,p2,(head_row ((hW.block g hcl).trans hc)).cell (i:=5) (by simp)⟩)
 have HFR:Hid (∀ W:World,Below w.heap.size w W->W.frozen? ⟨b,1,none⟩=false/\W.frozen? ⟨b,2,none⟩=false):=Lib.hid (fun W hW=>⟨box_free ((hW.block b hb).trans h.box) 1,box_free ((hW.block b hb).trans h.box) 2⟩)
 have HEND:Hid (∀ W F0 n0 d0,Below w.heap.size w W->St8 W (s.resize n) (.slice F0 n0 d0)->Ps w b m x (.lru (s.resize n)) ((W.setCell ⟨b,1,none⟩ (.int .i64 ((s.resize n).c:Nat))).setCell ⟨b,2,none⟩ (.slice F0 n0 d0))/\∀ o out,KV W o out->KV ((W.setCell ⟨b,1,none⟩ (.int .i64 ((s.resize n).c:Nat))).setCell ⟨b,2,none⟩ (.slice F0 n0 d0)) o out):=Lib.hid (fun W F0 n0 d0 hW hs=>by
  obtain ⟨h1,h2⟩:=box_set8 ((h.below hW).box) ((s.resize n).c:Nat) F0 n0 d0
  have h3:=(h.below hW).st.only h2 (h.below hW).bx
  exact ⟨⟨(Only.of_below hW).trans h2 (by simp),{ x with c8:=((s.resize n).c:Nat),l8:=⟨F0,n0,d0⟩ },rfl,⟨h1,h.ty,⟨⟨hp,rfl,⟨hs.g1.only h2 (h.below hW).bx⟩⟩,h3.prs,h3.hi,h3.mi,h3.ev⟩⟩⟩,fun o out ho=>ho.only h2 (h.below hW).bx⟩)
 have c0:w.cell? ⟨g,0,none⟩=some (.func (.func 55) #[] #[]):=(head_row hc).cell (i:=0) (by simp)
 obtain ⟨k0,k1,k2⟩:=HLD.out w (Below.refl _ _)
 have KT:Hid (∀ W,Below w.heap.size w W->Calls Tryz.prog 60 #[(.agg (l8C s.c (.slice x.l8.F x.l8.n x.l8.c))),.int .i64 n] W (P8o W (s.resize n) (s.resizeOut n))):=Lib.hid (fun W hW=>PO.resize (hst.below hW) ok n hn1 hn2)
 clear hst hc0 hp h hps hc
 go_enter Tryz.func133,Tryz.ntmps133
 go_wp2_with (go_at_call 55;refine HF.out.mono ?_;rintro e w1 ⟨rfl,rfl⟩)
 go_region_with (go_at_call 60;refine (KT.out _ (below_drewn (Below.refl _ _) _)).mono ?_;rintro e w5 ⟨u50,o5,he,hb5,hk5,ho5⟩;obtain ⟨F50,n50,d50,rfl⟩:=hk5.form1;subst he;have hbA:=(below_drewn (Below.refl w1.heap.size w1) _).trans hb5;obtain ⟨z0,z1⟩:=HFR.out w5 hbA;obtain ⟨k0,k1,k2⟩:=HLD.out w5 hbA)
 all_goals
  go_wp2
  go_ret
  exact ⟨_,rfl,(HEND.out _ _ _ _ hbA hk5).1,(HEND.out _ _ _ _ hbA hk5).2 _ _ ho5⟩
end
set_option maxRecDepth 8000
section
variable {w:World} {b g:Nat} {m:M13} {x:V13} {s:L8}
set_option maxHeartbeats 2000000 in
theorem has8c (PO:Pol8Ok) (hc:w.heap[g]? = some (.cells cl8C CT8 (0,0))) (h:S13 w PT13 b m x) (hps:m.ps = .lru s) (ok:s.Ok) (k:Nat) (hk:k < 18446744073709551616) :
  Calls Tryz.prog 139 #[.pointer (some ⟨b,0,none⟩),.int .u64 (k:Nat),.pointer (some ⟨g,0,none⟩)] w (RetB w (decide (k∈s.keys))):=by
 have hb:=h.lt
 have hpol:=h.st.pol
 rw [hps] at hpol
 obtain ⟨hp,hc0,hst⟩:=hpol
 have HF:=Lib.hid (fld8 w b)
 have hcl:=(head_row hc).lt
 have HLD:Hid (∀ W:World,Below w.heap.size w W->W.cell? ⟨b,1,none⟩=some (.int .i64 (s.c:Nat))/\W.cell? ⟨b,2,none⟩=some (.slice x.l8.F x.l8.n x.l8.c)/\W.cell? ⟨g,6,none⟩=some (.func (.func 61) #[] #[])):=Lib.hid (fun W hW=>by
  obtain ⟨-,p1,p2,-⟩:=box_cells ((hW.block b hb).trans h.box)
  rw [hc0] at p1
  exact ⟨p1,p2,(head_row ((hW.block g hcl).trans hc)).cell (i:=6) (by simp)⟩)
 have c0:w.cell? ⟨g,0,none⟩=some (.func (.func 55) #[] #[]):=(head_row hc).cell (i:=0) (by simp)
 obtain ⟨k0,k1,k2⟩:=HLD.out w (Below.refl _ _)
 have KT:Hid (∀ W,Below w.heap.size w W->Calls Tryz.prog 61 #[(.agg (l8C s.c (.slice x.l8.F x.l8.n x.l8.c))),.int .u64 (k:Nat)] W (RetB W (decide (k∈s.keys)))):=Lib.hid (fun W hW=>PO.has (hst.below hW) ok k hk)
 have HL5:Hid (∀ W:World,Below w.heap.size w W->W.cell? ⟨b,1,none⟩=some (.int .i64 (s.c:Nat))/\W.cell? ⟨b,2,none⟩=some (.slice x.l8.F x.l8.n x.l8.c)/\W.cell? ⟨g,6,none⟩=some (.func (.func 61) #[] #[])/\W.cell? ⟨g,0,none⟩=some (.func (.func 55) #[] #[])):=Lib.hid (fun W hW=>by
  obtain ⟨j0,j1,j2⟩:=HLD.out W hW
  exact ⟨j0,j1,j2,(head_row ((hW.block g hcl).trans hc)).cell (i:=0) (by simp)⟩)
 clear hst hc0 hp h hps hc
 go_enter Tryz.func139,Tryz.ntmps139
 go_wp2_with fail
 go_region_held3 (fun w'=>w'.cell? ⟨b,1,none⟩=some (.int .i64 (s.c:Nat))/\w'.cell? ⟨b,2,none⟩=some (.slice x.l8.F x.l8.n x.l8.c)/\w'.cell? ⟨g,6,none⟩=some (.func (.func 61) #[] #[])/\w'.cell? ⟨g,0,none⟩=some (.func (.func 55) #[] #[]))
  (first | with_reducible exact kk5 | go_keep)
  (first
  | (go_at_call 55;refine (fld8 _ b).mono ?_;rintro e w1 ⟨rfl,rfl⟩)
  | (go_at_call 61;refine (KT.out _ (below_drewn (Below.refl _ _) _)).mono ?_;rintro e w5 ⟨rfl,hb5⟩;have hbA:=(below_drewn (Below.refl w.heap.size w) _).trans hb5;have kk5:=HL5.out w5 hbA))
 all_goals
  go_wp2
  go_ret
  exact ⟨rfl,hbA⟩
set_option maxHeartbeats 2000000 in
theorem keys8c (PO:Pol8Ok) (hc:w.heap[g]? = some (.cells cl8C CT8 (0,0))) (h:S13 w PT13 b m x) (hps:m.ps = .lru s) (ok:s.Ok)  :
  Calls Tryz.prog 140 #[.pointer (some ⟨b,0,none⟩),.pointer (some ⟨g,0,none⟩)] w (RetK w s.keys):=by
 have hb:=h.lt
 have hpol:=h.st.pol
 rw [hps] at hpol
 obtain ⟨hp,hc0,hst⟩:=hpol
 have HF:=Lib.hid (fld8 w b)
 have hcl:=(head_row hc).lt
 have HLD:Hid (∀ W:World,Below w.heap.size w W->W.cell? ⟨b,1,none⟩=some (.int .i64 (s.c:Nat))/\W.cell? ⟨b,2,none⟩=some (.slice x.l8.F x.l8.n x.l8.c)/\W.cell? ⟨g,7,none⟩=some (.func (.func 62) #[] #[])):=Lib.hid (fun W hW=>by
  obtain ⟨-,p1,p2,-⟩:=box_cells ((hW.block b hb).trans h.box)
  rw [hc0] at p1
  exact ⟨p1,p2,(head_row ((hW.block g hcl).trans hc)).cell (i:=7) (by simp)⟩)
 have c0:w.cell? ⟨g,0,none⟩=some (.func (.func 55) #[] #[]):=(head_row hc).cell (i:=0) (by simp)
 obtain ⟨k0,k1,k2⟩:=HLD.out w (Below.refl _ _)
 have KT:Hid (∀ W,Below w.heap.size w W->Calls Tryz.prog 62 #[(.agg (l8C s.c (.slice x.l8.F x.l8.n x.l8.c)))] W (RetK W s.keys)):=Lib.hid (fun W hW=>PO.keys (hst.below hW) ok)
 have HL5:Hid (∀ W:World,Below w.heap.size w W->W.cell? ⟨b,1,none⟩=some (.int .i64 (s.c:Nat))/\W.cell? ⟨b,2,none⟩=some (.slice x.l8.F x.l8.n x.l8.c)/\W.cell? ⟨g,7,none⟩=some (.func (.func 62) #[] #[])/\W.cell? ⟨g,0,none⟩=some (.func (.func 55) #[] #[])):=Lib.hid (fun W hW=>by
  obtain ⟨j0,j1,j2⟩:=HLD.out W hW
  exact ⟨j0,j1,j2,(head_row ((hW.block g hcl).trans hc)).cell (i:=0) (by simp)⟩)
 clear hst hc0 hp h hps hc
 go_enter Tryz.func140,Tryz.ntmps140
 go_wp2_with fail
 go_region_held3 (fun w'=>w'.cell? ⟨b,1,none⟩=some (.int .i64 (s.c:Nat))/\w'.cell? ⟨b,2,none⟩=some (.slice x.l8.F x.l8.n x.l8.c)/\w'.cell? ⟨g,7,none⟩=some (.func (.func 62) #[] #[])/\w'.cell? ⟨g,0,none⟩=some (.func (.func 55) #[] #[]))
  (first | with_reducible exact kk5 | go_keep)
  (first
  | (go_at_call 55;refine (fld8 _ b).mono ?_;rintro e w1 ⟨rfl,rfl⟩)
  | (go_at_call 62;refine (KT.out _ (below_drewn (Below.refl _ _) _)).mono ?_;rintro e w5 ⟨v5,rfl,hb5,hk5⟩;have hbA:=(below_drewn (Below.refl w.heap.size w) _).trans hb5;have kk5:=HL5.out w5 hbA))
 all_goals
  go_wp2
  go_ret
  exact ⟨_,rfl,hbA,hk5⟩
set_option maxHeartbeats 2000000 in
theorem ghosts8c (PO:Pol8Ok) (hc:w.heap[g]? = some (.cells cl8C CT8 (0,0))) (h:S13 w PT13 b m x) (hps:m.ps = .lru s) (ok:s.Ok)  :
  Calls Tryz.prog 141 #[.pointer (some ⟨b,0,none⟩),.pointer (some ⟨g,0,none⟩)] w (fun e w'=>e = .returned (.int .i64 (s.ghosts:Nat))/\Below w.heap.size w w'):=by
 have hb:=h.lt
 have hpol:=h.st.pol
 rw [hps] at hpol
 obtain ⟨hp,hc0,hst⟩:=hpol
 have HF:=Lib.hid (fld8 w b)
 have hcl:=(head_row hc).lt
 have HLD:Hid (∀ W:World,Below w.heap.size w W->W.cell? ⟨b,1,none⟩=some (.int .i64 (s.c:Nat))/\W.cell? ⟨b,2,none⟩=some (.slice x.l8.F x.l8.n x.l8.c)/\W.cell? ⟨g,8,none⟩=some (.func (.func 63) #[] #[])):=Lib.hid (fun W hW=>by
  obtain ⟨-,p1,p2,-⟩:=box_cells ((hW.block b hb).trans h.box)
  rw [hc0] at p1
  exact ⟨p1,p2,(head_row ((hW.block g hcl).trans hc)).cell (i:=8) (by simp)⟩)
 have c0:w.cell? ⟨g,0,none⟩=some (.func (.func 55) #[] #[]):=(head_row hc).cell (i:=0) (by simp)
 obtain ⟨k0,k1,k2⟩:=HLD.out w (Below.refl _ _)
 have KT:Hid (∀ W,Below w.heap.size w W->Calls Tryz.prog 63 #[(.agg (l8C s.c (.slice x.l8.F x.l8.n x.l8.c)))] W (fun e w'=>e = .returned (.int .i64 (s.ghosts:Nat))/\Below W.heap.size W w')):=Lib.hid (fun W hW=>PO.ghosts (hst.below hW) ok)
 have HL5:Hid (∀ W:World,Below w.heap.size w W->W.cell? ⟨b,1,none⟩=some (.int .i64 (s.c:Nat))/\W.cell? ⟨b,2,none⟩=some (.slice x.l8.F x.l8.n x.l8.c)/\W.cell? ⟨g,8,none⟩=some (.func (.func 63) #[] #[])/\W.cell? ⟨g,0,none⟩=some (.func (.func 55) #[] #[])):=Lib.hid (fun W hW=>by
  obtain ⟨j0,j1,j2⟩:=HLD.out W hW
  exact ⟨j0,j1,j2,(head_row ((hW.block g hcl).trans hc)).cell (i:=0) (by simp)⟩)
 clear hst hc0 hp h hps hc
 go_enter Tryz.func141,Tryz.ntmps141
 go_wp2_with fail
 go_region_held3 (fun w'=>w'.cell? ⟨b,1,none⟩=some (.int .i64 (s.c:Nat))/\w'.cell? ⟨b,2,none⟩=some (.slice x.l8.F x.l8.n x.l8.c)/\w'.cell? ⟨g,8,none⟩=some (.func (.func 63) #[] #[])/\w'.cell? ⟨g,0,none⟩=some (.func (.func 55) #[] #[]))
  (first | with_reducible exact kk5 | go_keep)
  (first
  | (go_at_call 55;refine (fld8 _ b).mono ?_;rintro e w1 ⟨rfl,rfl⟩)
  | (go_at_call 63;refine (KT.out _ (below_drewn (Below.refl _ _) _)).mono ?_;rintro e w5 ⟨rfl,hb5⟩;have hbA:=(below_drewn (Below.refl w.heap.size w) _).trans hb5;have kk5:=HL5.out w5 hbA))
 all_goals
  go_wp2
  go_ret
  exact ⟨rfl,hbA⟩
set_option maxHeartbeats 2000000 in
theorem caps8c (hc:w.heap[g]? = some (.cells cl8C CT8 (0,0))) (h:S13 w PT13 b m x) (hps:m.ps = .lru s)  :
  Calls Tryz.prog 142 #[.pointer (some ⟨b,0,none⟩),.pointer (some ⟨g,0,none⟩)] w (fun e w'=>e = .returned (.int .i64 (s.c:Nat))/\Below w.heap.size w w'):=by
 have hb:=h.lt
 have hpol:=h.st.pol
 rw [hps] at hpol
 obtain ⟨hp,hc0,hst⟩:=hpol
 have HF:=Lib.hid (fld8 w b)
 have hcl:=(head_row hc).lt
 have HLD:Hid (∀ W:World,Below w.heap.size w W->W.cell? ⟨b,1,none⟩=some (.int .i64 (s.c:Nat))/\W.cell? ⟨b,2,none⟩=some (.slice x.l8.F x.l8.n x.l8.c)/\W.cell? ⟨g,9,none⟩=some (.func (.func 64) #[] #[])):=Lib.hid (fun W hW=>by
  obtain ⟨-,p1,p2,-⟩:=box_cells ((hW.block b hb).trans h.box)
  rw [hc0] at p1
  exact ⟨p1,p2,(head_row ((hW.block g hcl).trans hc)).cell (i:=9) (by simp)⟩)
 have c0:w.cell? ⟨g,0,none⟩=some (.func (.func 55) #[] #[]):=(head_row hc).cell (i:=0) (by simp)
 obtain ⟨k0,k1,k2⟩:=HLD.out w (Below.refl _ _)
 have KT:Hid (∀ W,Below w.heap.size w W->Calls Tryz.prog 64 #[(.agg (l8C s.c (.slice x.l8.F x.l8.n x.l8.c)))] W (fun e w'=>e = .returned (.int .i64 (s.c:Nat))/\Below W.heap.size W w')):=Lib.hid (fun W hW=>cap8 W s _ ((hst.below hW).form1))
 have HL5:Hid (∀ W:World,Below w.heap.size w W->W.cell? ⟨b,1,none⟩=some (.int .i64 (s.c:Nat))/\W.cell? ⟨b,2,none⟩=some (.slice x.l8.F x.l8.n x.l8.c)/\W.cell? ⟨g,9,none⟩=some (.func (.func 64) #[] #[])/\W.cell? ⟨g,0,none⟩=some (.func (.func 55) #[] #[])):=Lib.hid (fun W hW=>by
  obtain ⟨j0,j1,j2⟩:=HLD.out W hW
  exact ⟨j0,j1,j2,(head_row ((hW.block g hcl).trans hc)).cell (i:=0) (by simp)⟩)
 clear hst hc0 hp h hps hc
 go_enter Tryz.func142,Tryz.ntmps142
 go_wp2_with fail
 go_region_held3 (fun w'=>w'.cell? ⟨b,1,none⟩=some (.int .i64 (s.c:Nat))/\w'.cell? ⟨b,2,none⟩=some (.slice x.l8.F x.l8.n x.l8.c)/\w'.cell? ⟨g,9,none⟩=some (.func (.func 64) #[] #[])/\w'.cell? ⟨g,0,none⟩=some (.func (.func 55) #[] #[]))
  (first | with_reducible exact kk5 | go_keep)
  (first
  | (go_at_call 55;refine (fld8 _ b).mono ?_;rintro e w1 ⟨rfl,rfl⟩)
  | (go_at_call 64;refine (KT.out _ (below_drewn (Below.refl _ _) _)).mono ?_;rintro e w5 ⟨rfl,hb5⟩;have hbA:=(below_drewn (Below.refl w.heap.size w) _).trans hb5;have kk5:=HL5.out w5 hbA))
 all_goals
  go_wp2
  go_ret
  exact ⟨rfl,hbA⟩
end
set_option maxRecDepth 8000
section
variable {w:World} {b g:Nat} {m:M13} {x:V13} {s:L8}
set_option maxHeartbeats 4000000 in
theorem own8c (PO:Pol8Ok) (hc:w.heap[g]? = some (.cells cl8C CT8 (0,0))) (h:S13 w PT13 b m x) (hps:m.ps = .lru s) (ok:s.Ok) {g2:Nat} (hr:w.heap[g2]? = some (.cells #[.func (.func 133) #[] #[.pointer (some ⟨g,0,none⟩)]] RT13_8 (0,0))) :
  Calls Tryz.prog 135 #[.pointer (some ⟨b,0,none⟩),.pointer (some ⟨g2,0,none⟩),.pointer (some ⟨g,0,none⟩)] w fun e w'=>e = .returned (.tuple #[])/\Ps w b m x (.lru s) w':=by
 have hb:=h.lt
 have hpol:=h.st.pol
 rw [hps] at hpol
 obtain ⟨hp,hc0,hst⟩:=hpol
 have hcl:=(head_row hc).lt
 have hrl:=(head_row hr).lt
 have HSS:Hid (∀ W:World,Below w.heap.size w W->W.cell? ⟨g2,0,none⟩=some (.func (.func 133) #[] #[.pointer (some ⟨g,0,none⟩)])/\W.cell? ⟨g,0,none⟩=some (.func (.func 55) #[] #[])/\W.cell? ⟨g,9,none⟩=some (.func (.func 64) #[] #[])):=Lib.hid (fun W hW=>by
  exact ⟨(head_row ((hW.block g2 hrl).trans hr)).cell (i:=0) (by simp),(head_row ((hW.block g hcl).trans hc)).cell (i:=0) (by simp),(head_row ((hW.block g hcl).trans hc)).cell (i:=9) (by simp)⟩)
 have KC:Hid (∀ W F0 n0 d0,Calls Tryz.prog 64 #[.agg (l8C s.c (.slice F0 n0 d0))] W (fun e w'=>e = .returned (.int .i64 (s.c:Nat))/\Below W.heap.size W w')):=Lib.hid (fun W F0 n0 d0=>cap8 W s _ (⟨F0,n0,d0,rfl⟩))
 have hcap:=ok.cap
 have KR:Hid (∀ W,Below w.heap.size w W->Calls Tryz.prog 133 #[.pointer (some ⟨b,0,none⟩),.int .i64 (s.c:Nat),.pointer (some ⟨g,0,none⟩)] W (fun e w'=>∃ v,e = .returned v/\Ps w b m x (.lru s) w')):=Lib.hid (fun W hW=>by
  refine (resize8c PO ((hW.block g hcl).trans hc) (h.below hW) hps ok (s.c:Nat) (by omega) (by omega)).mono ?_
  rintro e w' ⟨v,rfl,⟨h1,x',h2,h3⟩,_⟩
  rw [(L8.own ok).1] at h3
  exact ⟨v,rfl,⟨(Only.of_below hW).trans h1 (by simp),x',h2,h3⟩⟩)
 obtain ⟨k0,k1,k2⟩:=HSS.out w (Below.refl _ _)
 obtain ⟨-,p1,p2,-⟩:=box_cells h.box
 rw [hc0] at p1
 clear hst hc0 hp h hps hc hr hcap
 go_enter Tryz.func135,Tryz.ntmps135
 go_wp2_with fail
 go_region_with (first | (go_at_call 55;refine (fld8 _ b).mono ?_;rintro e w1 ⟨rfl,rfl⟩) | (go_at_call 64;refine (KC.out _ _ _ _).mono ?_;rintro e w5 ⟨rfl,hb5⟩;have hbA:=(below_drewn (Below.refl w.heap.size w) _).trans hb5;obtain ⟨k0,k1,k2⟩:=HSS.out w5 hbA) | (go_at_call 133;refine (KR.out _ hbA).mono ?_;rintro e w6 ⟨v6,rfl,hp6⟩))
 all_goals
  go_wp2
  go_end0
  exact ⟨rfl,hp6⟩
end
set_option maxRecDepth 8000
section
variable {w:World} {b g:Nat} {m:M13} {x:V13} {s:L8}
set_option maxHeartbeats 4000000 in
theorem start8c (PO:Pol8Ok) (hc:w.heap[g]? = some (.cells cl8C CT8 (0,0))) (h:w.heap[b]? = some (.cells x.C PT13 (0,0))) (hp:x.p=1) (n:Int) (hn1 : -9223372036854775808<=n) (hn2:n<=9223372036854775807) :
  Calls Tryz.prog 134 #[.pointer (some ⟨b,0,none⟩),.int .i64 n,.pointer (some ⟨g,0,none⟩)] w fun e w'=>e = .returned (.tuple #[])/\Only [b] w w'/\∃ x':V13,x'.pr=x.pr/\x'.p=x.p/\x'.hi=x.hi/\x'.mi=x.mi/\x'.ev=x.ev/\w'.heap[b]? = some (.cells x'.C PT13 (0,0))/\PolIn w' x' (.lru (L8.new n)):=by
 have hb:=(head_row h).lt
 have hcl:=(head_row hc).lt
 have KT:Hid (∀ W,Below w.heap.size w W->Calls Tryz.prog 56 #[.int .i64 n] W (P8 W (L8.new n))):=Lib.hid (fun W _=>PO.new W n hn1 hn2)
 have HLD:Hid (∀ W:World,Below w.heap.size w W->W.cell? ⟨g,0,none⟩=some (.func (.func 55) #[] #[])/\W.cell? ⟨g,1,none⟩=some (.func (.func 56) #[] #[])):=Lib.hid (fun W hW=>⟨(head_row ((hW.block g hcl).trans hc)).cell (i:=0) (by simp),(head_row ((hW.block g hcl).trans hc)).cell (i:=1) (by simp)⟩)
 have HFR:Hid (∀ W:World,Below w.heap.size w W->(W.frozen? ⟨b,1,none⟩=false/\W.frozen? ⟨b,2,none⟩=false)/\∃ v1 v2,W.cell? ⟨b,1,none⟩=some v1/\W.cell? ⟨b,2,none⟩=some v2):=Lib.hid (fun W hW=>by
  obtain ⟨-,p1,p2,-⟩:=box_cells ((hW.block b hb).trans h)
  exact ⟨⟨box_free ((hW.block b hb).trans h) 1,box_free ((hW.block b hb).trans h) 2⟩,_,_,p1,p2⟩)
 obtain ⟨k0,k1⟩:=HLD.out w (Below.refl _ _)
 have HEND:Hid (∀ W F0 n0 d0,Below w.heap.size w W->St8 W (L8.new n) (.slice F0 n0 d0)->Only [b] w ((W.setCell ⟨b,1,none⟩ (.int .i64 ((L8.new n).c:Nat))).setCell ⟨b,2,none⟩ (.slice F0 n0 d0))/\∃ x':V13,x'.pr=x.pr/\x'.p=x.p/\x'.hi=x.hi/\x'.mi=x.mi/\x'.ev=x.ev/\(((W.setCell ⟨b,1,none⟩ (.int .i64 ((L8.new n).c:Nat))).setCell ⟨b,2,none⟩ (.slice F0 n0 d0))).heap[b]? = some (.cells x'.C PT13 (0,0))/\PolIn ((W.setCell ⟨b,1,none⟩ (.int .i64 ((L8.new n).c:Nat))).setCell ⟨b,2,none⟩ (.slice F0 n0 d0)) x' (.lru (L8.new n))):=Lib.hid (fun W F0 n0 d0 hW hs=>by
  have hbx:∀ j∈[b],Bx W j:=fun j hj=>by
   have e:j=b:=by simpa using hj
   rw [e]
   exact ⟨_,_,(hW.block b hb).trans h,x.nou,by decide⟩
  obtain ⟨h1,h2⟩:=box_set8 ((hW.block b hb).trans h) ((L8.new n).c:Nat) F0 n0 d0
  exact ⟨(Only.of_below hW).trans h2 (by simp),{ x with c8:=((L8.new n).c:Nat),l8:=⟨F0,n0,d0⟩ },rfl,rfl,rfl,rfl,rfl,h1,⟨hp,rfl,⟨hs.g1.only h2 hbx⟩⟩⟩)
 clear h hc hp
 go_enter Tryz.func134,Tryz.ntmps134
 go_wp2_with fail
 go_region_with (first | (go_at_call 55;refine (fld8 _ b).mono ?_;rintro e w1 ⟨rfl,rfl⟩) | (go_at_call 56;refine (KT.out _ (below_drewn (Below.refl _ _) _)).mono ?_;rintro e w5 ⟨u50,rfl,hb5,hk5⟩;obtain ⟨F50,n50,d50,rfl⟩:=hk5.form1;have hbA:=(below_drewn (Below.refl w.heap.size w) _).trans hb5;obtain ⟨k0,k1⟩:=HLD.out w5 hbA;obtain ⟨⟨z0,z1⟩,y1,y2,y'1,y'2⟩:=HFR.out w5 hbA))
 all_goals
  go_wp2
  go_end0
  exact ⟨rfl,HEND.out _ _ _ _ hbA hk5⟩
end
set_option maxRecDepth 8000
abbrev pf8 (g g2:Nat):PolF:=⟨134,135,136,137,138,133,139,140,141,142,#[.pointer (some ⟨g,0,none⟩)],#[.pointer (some ⟨g2,0,none⟩),.pointer (some ⟨g,0,none⟩)],#[.pointer (some ⟨g,0,none⟩)],#[.pointer (some ⟨g,0,none⟩)],#[.pointer (some ⟨g,0,none⟩)],#[.pointer (some ⟨g,0,none⟩)],#[.pointer (some ⟨g,0,none⟩)],#[.pointer (some ⟨g,0,none⟩)],#[.pointer (some ⟨g,0,none⟩)],#[.pointer (some ⟨g,0,none⟩)]⟩
def Iv8 (g g2:Nat) (W:World):Prop:=W.heap[g]? = some (.cells cl8C CT8 (0,0))/\W.heap[g2]? = some (.cells #[.func (.func 133) #[] #[.pointer (some ⟨g,0,none⟩)]] RT13_8 (0,0))
theorem is8 {m:M13} (h:m.ps.tag=1):∃ s,m.ps = .lru s:=by
 cases hp:m.ps with
 | lru s=>exact ⟨s,rfl⟩
 | twoq s=>rw [hp] at h;cases h
 | sthree s=>rw [hp] at h;cases h
 | arc s=>rw [hp] at h;cases h
 | lirs s=>rw [hp] at h;cases h
theorem polv8 (PO:Pol8Ok) (g g2:Nat):PolV (pf8 g g2) 1 [g,g2] (Iv8 g g2) where
 e0:=fun args W=>by kernel_rfl
 e1:=fun args W=>by kernel_rfl
 e2:=fun args W=>by kernel_rfl
 e3:=fun args W=>by kernel_rfl
 e4:=fun args W=>by kernel_rfl
 e5:=fun args W=>by kernel_rfl
 e6:=fun args W=>by kernel_rfl
 e7:=fun args W=>by kernel_rfl
 e8:=fun args W=>by kernel_rfl
 e9:=fun args W=>by kernel_rfl
 typ:=fun W h k hk=>by
  simp only [List.mem_cons,List.not_mem_nil,or_false] at hk
  rcases hk with rfl | rfl
  ·exact ⟨_,_,h.1,by decide,by decide⟩
  ·exact ⟨_,_,h.2,by decide,by decide⟩
 stay:=fun W W' h hk=>⟨(hk g (by simp)).trans h.1,(hk g2 (by simp)).trans h.2⟩
 own:=fun {W b m x} hi hs ht ok=>by
  obtain ⟨s,hps⟩:=is8 ht
  have ok2:s.Ok:=by
   have h:=ok
   rw [hps] at h
   exact h
  rw [hps]
  exact own8c PO hi.1 hs hps ok2 hi.2
 touch:=fun {W b m x} hi hs ht ok k hk=>by
  obtain ⟨s,hps⟩:=is8 ht
  have ok2:s.Ok:=by
   have h:=ok
   rw [hps] at h
   exact h
  rw [hps]
  exact touch8c PO hi.1 hs hps ok2 k hk
 adm:=fun {W b m x} hi hs ht ok k hk=>by
  obtain ⟨s,hps⟩:=is8 ht
  have ok2:s.Ok:=by
   have h:=ok
   rw [hps] at h
   exact h
  rw [hps]
  exact adm8c PO hi.1 hs hps ok2 k hk
 drop:=fun {W b m x} hi hs ht ok k hk=>by
  obtain ⟨s,hps⟩:=is8 ht
  have ok2:s.Ok:=by
   have h:=ok
   rw [hps] at h
   exact h
  rw [hps]
  exact drop8c PO hi.1 hs hps ok2 k hk
 rsz:=fun {W b m x} hi hs ht ok n h1 h2=>by
  obtain ⟨s,hps⟩:=is8 ht
  have ok2:s.Ok:=by
   have h:=ok
   rw [hps] at h
   exact h
  rw [hps]
  exact resize8c PO hi.1 hs hps ok2 n h1 h2
 has:=fun {W b m x} hi hs ht ok k hk=>by
  obtain ⟨s,hps⟩:=is8 ht
  have ok2:s.Ok:=by
   have h:=ok
   rw [hps] at h
   exact h
  rw [hps]
  exact has8c PO hi.1 hs hps ok2 k hk
 keys:=fun {W b m x} hi hs ht ok=>by
  obtain ⟨s,hps⟩:=is8 ht
  have ok2:s.Ok:=by
   have h:=ok
   rw [hps] at h
   exact h
  rw [hps]
  exact keys8c PO hi.1 hs hps ok2
 gho:=fun {W b m x} hi hs ht ok=>by
  obtain ⟨s,hps⟩:=is8 ht
  have ok2:s.Ok:=by
   have h:=ok
   rw [hps] at h
   exact h
  rw [hps]
  exact ghosts8c PO hi.1 hs hps ok2
 cap:=fun {W b m x} hi hs ht ok=>by
  obtain ⟨s,hps⟩:=is8 ht
  rw [hps]
  exact caps8c hi.1 hs hps
theorem pols8 (PO:Pol8Ok) (g g2:Nat):PolS (pf8 g g2) 1 (Iv8 g g2):=⟨fun {_ _ _} hi hb hp n h1 h2=>start8c PO hi.1 hb hp n h1 h2⟩
set_option maxHeartbeats 2000000 in
theorem over8_walk (w:World):Calls Tryz.prog 54 #[.agg cl8C] w fun e w'=>e = .returned (.agg (pf8 w.heap.size (w.heap.size+1+1)).C)/\Below w.heap.size w w'/\Iv8 w.heap.size (w.heap.size+1+1) w':=by
 have hmf:∀ (fn:Fn) (first cap:Array Value) (w:World),(Instr.makeFunc fn first cap).run Tryz.prog w = .ok (.func fn first cap) w:=fun _ _ _ _=>rfl
 go_enter Tryz.func54,Tryz.ntmps54
 go_wp2_with fail
 refine bodyPost_ret (v := .agg (pf8 w.heap.size (w.heap.size+1+1)).C) (by simp [results,Tryz.results54,go_sem]) rfl ⟨rfl,(low_two w _ _).alloc (by simp;omega) _,?_,?_⟩
 ·rw [Below.heap_alloc _ _ _ (by simp;omega),Below.heap_alloc _ _ _ (by simp)]
  exact heap_alloc_new w _
 ·have:=heap_alloc_new ((w.alloc (.cells cl8C CT8)).alloc (.cells (pf8 w.heap.size (w.heap.size+1+1)).C PolT)) (.cells #[.func (.func 133) #[] #[.pointer (some ⟨w.heap.size,0,none⟩)]] RT13_8)
  simpa using this
set_option maxHeartbeats 2000000 in
theorem policyOf8_walk (w:World):Calls Tryz.prog 28 #[.int .i64 1] w fun e w'=>e = .returned (.tuple #[.agg (pf8 (w.heap.size+1) (w.heap.size+1+1+1)).C,.bool true])/\Below w.heap.size w w'/\Iv8 (w.heap.size+1) (w.heap.size+1+1+1) w':=by
 have HO:=Lib.hid (over8_walk (w.alloc (.cells #[.nilFunc,.nilFunc,.nilFunc,.nilFunc,.nilFunc,.nilFunc,.nilFunc,.nilFunc,.nilFunc,.nilFunc] PolT)))
 have hr:=heap_alloc_new w (.cells #[.nilFunc,.nilFunc,.nilFunc,.nilFunc,.nilFunc,.nilFunc,.nilFunc,.nilFunc,.nilFunc,.nilFunc] PolT)
 have HR:=Lib.hid hr
 have HL:=Lib.hid (low_one w (.cells #[.nilFunc,.nilFunc,.nilFunc,.nilFunc,.nilFunc,.nilFunc,.nilFunc,.nilFunc,.nilFunc,.nilFunc] PolT))
 clear hr
 go_enter Tryz.func28,Tryz.ntmps28
 go_wp2_with fail
 refine HO.out.mono ?_
 rintro e w2 ⟨rfl,hb2,hi2⟩
 simp only [World.size_alloc] at hi2
 have hr2:=(hb2.block _ (head_row HR.out).lt).trans HR.out
 have HEND:Hid (∀ W,Only [w.heap.size] w2 W->Below w.heap.size w W/\Iv8 (w.heap.size+1) (w.heap.size+1+1+1) W):=Lib.hid (fun W ho=>by
  have h3:=hb2.size
  simp only [World.size_alloc] at h3
  refine ⟨(HL.out.trans (hb2.mono HL.out.size)).trans (ho.below (by simp) (by omega)),(ho.block _ (head_row hi2.1).lt (by simp)).trans hi2.1,(ho.block _ (head_row hi2.2).lt (by simp;omega)).trans hi2.2⟩)
 obtain ⟨⟨z0,z1,z2,z3,z4,z5,z6,z7,z8,z9⟩,zf⟩:=c10_at hr2
 have zf0:=zf 0
 have zf1:=zf 1
 have zf2:=zf 2
 have zf3:=zf 3
 have zf4:=zf 4
 have zf5:=zf 5
 have zf6:=zf 6
 have zf7:=zf 7
 have zf8:=zf 8
 have zf9:=zf 9
 clear hb2 hi2 hr2 HO HR HL zf
 simp only [World.size_alloc]
 go_wp2_with fail
 refine bodyPost_ret (v := .tuple #[.agg (pf8 (w.heap.size+1) (w.heap.size+1+1+1)).C,.bool true]) (by simp [results,Tryz.results28,go_sem,z0,z1,z2,z3,z4,z5,z6,z7,z8,z9]) rfl ⟨rfl,HEND.out _ ((((((((((((Only.refl _ _).setCell (by simp) _).setCell (by simp) _).setCell (by simp) _).setCell (by simp) _).setCell (by simp) _).setCell (by simp) _).setCell (by simp) _).setCell (by simp) _).setCell (by simp) _).setCell (by simp) _))⟩
end Go.Proofs.YtcpggonengkgiaaGreatDoor
