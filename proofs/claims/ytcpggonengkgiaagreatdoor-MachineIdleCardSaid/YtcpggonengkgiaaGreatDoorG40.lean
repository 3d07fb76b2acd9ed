/- Words and walks: McVD11 McU11. -/
import Derived.Test.YtcpggonengkgiaaGreatDoorG33
import Derived.Test.YtcpggonengkgiaaGreatDoorG39
import Derived.Deep.RegionHeld3
import Derived.Laws.EntriesVeiled
namespace Go.Proofs.YtcpggonengkgiaaGreatDoor
open Go Go.RowKit Go.Deep
set_option maxRecDepth 8000
section
variable {w:World} {b g:Nat} {m:M13} {x:V13} {s:L11}
set_option maxHeartbeats 4000000 in
theorem start11c (PO:Pol11Ok) (hc:w.heap[g]? = some (.cells cl11C CT11 (0,0))) (h:w.heap[b]? = some (.cells x.C PT13 (0,0))) (hp:x.p=4) (n:Int) (hn1 : -9223372036854775808<=n) (hn2:n<=9223372036854775807) :
  Calls Tryz.prog 186 #[.pointer (some ⟨b,0,none⟩),.int .i64 n,.pointer (some ⟨g,0,none⟩)] w fun e w'=>e = .returned (.tuple #[])/\Only [b] w w'/\∃ x':V13,x'.pr=x.pr/\x'.p=x.p/\x'.hi=x.hi/\x'.mi=x.mi/\x'.ev=x.ev/\w'.heap[b]? = some (.cells x'.C PT13 (0,0))/\PolIn w' x' (.arc (L11.new n)):=by
 have hb:=(head_row h).lt
 have hcl:=(head_row hc).lt
 have KT:Hid (∀ W,Below w.heap.size w W->Calls Tryz.prog 89 #[.int .i64 n] W (P11 W (L11.new n))):=Lib.hid (fun W _=>PO.new W n hn1 hn2)
 have HLD:Hid (∀ W:World,Below w.heap.size w W->W.cell? ⟨g,0,none⟩=some (.func (.func 88) #[] #[])/\W.cell? ⟨g,1,none⟩=some (.func (.func 89) #[] #[])):=Lib.hid (fun W hW=>⟨(head_row ((hW.block g hcl).trans hc)).cell (i:=0) (by simp),(head_row ((hW.block g hcl).trans hc)).cell (i:=1) (by simp)⟩)
 have HFR:Hid (∀ W:World,Below w.heap.size w W->(W.frozen? ⟨b,11,none⟩=false/\W.frozen? ⟨b,12,none⟩=false/\W.frozen? ⟨b,13,none⟩=false/\W.frozen? ⟨b,14,none⟩=false/\W.frozen? ⟨b,15,none⟩=false/\W.frozen? ⟨b,16,none⟩=false)/\∃ v11 v12 v13 v14 v15 v16,W.cell? ⟨b,11,none⟩=some v11/\W.cell? ⟨b,12,none⟩=some v12/\W.cell? ⟨b,13,none⟩=some v13/\W.cell? ⟨b,14,none⟩=some v14/\W.cell? ⟨b,15,none⟩=some v15/\W.cell? ⟨b,16,none⟩=some v16):=Lib.hid (fun W hW=>by
  obtain ⟨-,-,-,-,-,-,-,-,-,-,-,p11,p12,p13,p14,p15,p16,-⟩:=box_cells ((hW.block b hb).trans h)
  exact ⟨⟨box_free ((hW.block b hb).trans h) 11,box_free ((hW.block b hb).trans h) 12,box_free ((hW.block b hb).trans h) 13,box_free ((hW.block b hb).trans h) 14,box_free ((hW.block b hb).trans h) 15,box_free ((hW.block b hb).trans h) 16⟩,_,_,_,_,_,_,p11,p12,p13,p14,p15,p16⟩)
 obtain ⟨k0,k1⟩:=HLD.out w (Below.refl _ _)
 have HEND:Hid (∀ W F0 n0 d0 F1 n1 d1 F2 n2 d2 F3 n3 d3,Below w.heap.size w W->St11 W (L11.new n) (.slice F0 n0 d0) (.slice F1 n1 d1) (.slice F2 n2 d2) (.slice F3 n3 d3)->Only [b] w ((((((W.setCell ⟨b,11,none⟩ (.int .i64 ((L11.new n).c:Nat))).setCell ⟨b,12,none⟩ (.int .i64 ((L11.new n).p:Nat))).setCell ⟨b,13,none⟩ (.slice F0 n0 d0)).setCell ⟨b,14,none⟩ (.slice F1 n1 d1)).setCell ⟨b,15,none⟩ (.slice F2 n2 d2)).setCell ⟨b,16,none⟩ (.slice F3 n3 d3))/\∃ x':V13,x'.pr=x.pr/\x'.p=x.p/\x'.hi=x.hi/\x'.mi=x.mi/\x'.ev=x.ev/\(((((((W.setCell ⟨b,11,none⟩ (.int .i64 ((L11.new n).c:Nat))).setCell ⟨b,12,none⟩ (.int .i64 ((L11.new n).p:Nat))).setCell ⟨b,13,none⟩ (.slice F0 n0 d0)).setCell ⟨b,14,none⟩ (.slice F1 n1 d1)).setCell ⟨b,15,none⟩ (.slice F2 n2 d2)).setCell ⟨b,16,none⟩ (.slice F3 n3 d3))).heap[b]? = some (.cells x'.C PT13 (0,0))/\PolIn ((((((W.setCell ⟨b,11,none⟩ (.int .i64 ((L11.new n).c:Nat))).setCell ⟨b,12,none⟩ (.int .i64 ((L11.new n).p:Nat))).setCell ⟨b,13,none⟩ (.slice F0 n0 d0)).setCell ⟨b,14,none⟩ (.slice F1 n1 d1)).setCell ⟨b,15,none⟩ (.slice F2 n2 d2)).setCell ⟨b,16,none⟩ (.slice F3 n3 d3)) x' (.arc (L11.new n))):=Lib.hid (fun W F0 n0 d0 F1 n1 d1 F2 n2 d2 F3 n3 d3 hW hs=>by
  have hbx:∀ j∈[b],Bx W j:=fun j hj=>by
   have e:j=b:=by simpa using hj
   rw [e]
   exact ⟨_,_,(hW.block b hb).trans h,x.nou,by decide⟩
  obtain ⟨h1,h2⟩:=box_set11 ((hW.block b hb).trans h) ((L11.new n).c:Nat) ((L11.new n).p:Nat) F0 n0 d0 F1 n1 d1 F2 n2 d2 F3 n3 d3
  exact ⟨(Only.of_below hW).trans h2 (by simp),{ x with c11:=((L11.new n).c:Nat),p11:=((L11.new n).p:Nat),t11:=⟨F0,n0,d0⟩,u11:=⟨F1,n1,d1⟩,b11:=⟨F2,n2,d2⟩,d11:=⟨F3,n3,d3⟩ },rfl,rfl,rfl,rfl,rfl,h1,⟨hp,rfl,rfl,⟨hs.g1.only h2 hbx,hs.g2.only h2 hbx,hs.g3.only h2 hbx,hs.g4.only h2 hbx⟩⟩⟩)
 clear h hc hp
 go_enter Tryz.func186,Tryz.ntmps186
 go_wp2_with fail
 go_region_with (first | (go_at_call 88;refine (fld11 _ b).mono ?_;rintro e w1 ⟨rfl,rfl⟩) | (go_at_call 89;refine (KT.out _ (below_drewn (Below.refl _ _) _)).mono ?_;rintro e w5 ⟨u50,u51,u52,u53,rfl,hb5,hk5⟩;obtain ⟨F50,n50,d50,rfl⟩:=hk5.form1;obtain ⟨F51,n51,d51,rfl⟩:=hk5.form2;obtain ⟨F52,n52,d52,rfl⟩:=hk5.form3;obtain ⟨F53,n53,d53,rfl⟩:=hk5.form4;have hbA:=(below_drewn (Below.refl w.heap.size w) _).trans hb5;obtain ⟨k0,k1⟩:=HLD.out w5 hbA;obtain ⟨⟨z0,z1,z2,z3,z4,z5⟩,y11,y12,y13,y14,y15,y16,y'11,y'12,y'13,y'14,y'15,y'16⟩:=HFR.out w5 hbA))
 all_goals
  go_wp2
  go_end0
  exact ⟨rfl,HEND.out _ _ _ _ _ _ _ _ _ _ _ _ _ hbA hk5⟩
end
set_option maxRecDepth 8000
abbrev pf11 (g g2:Nat):PolF:=⟨186,187,188,189,190,185,191,192,193,194,#[.pointer (some ⟨g,0,none⟩)],#[.pointer (some ⟨g2,0,none⟩),.pointer (some ⟨g,0,none⟩)],#[.pointer (some ⟨g,0,none⟩)],#[.pointer (some ⟨g,0,none⟩)],#[.pointer (some ⟨g,0,none⟩)],#[.pointer (some ⟨g,0,none⟩)],#[.pointer (some ⟨g,0,none⟩)],#[.pointer (some ⟨g,0,none⟩)],#[.pointer (some ⟨g,0,none⟩)],#[.pointer (some ⟨g,0,none⟩)]⟩
def Iv11 (g g2:Nat) (W:World):Prop:=W.heap[g]? = some (.cells cl11C CT11 (0,0))/\W.heap[g2]? = some (.cells #[.func (.func 185) #[] #[.pointer (some ⟨g,0,none⟩)]] RT13_11 (0,0))
theorem is11 {m:M13} (h:m.ps.tag=4):∃ s,m.ps = .arc s:=by
 cases hp:m.ps with
 | lru s=>rw [hp] at h;cases h
 | twoq s=>rw [hp] at h;cases h
 | sthree s=>rw [hp] at h;cases h
 | arc s=>exact ⟨s,rfl⟩
 | lirs s=>rw [hp] at h;cases h
theorem polv11 (PO:Pol11Ok) (g g2:Nat):PolV (pf11 g g2) 4 [g,g2] (Iv11 g g2) where
 e0:=fun args W=>by kernel_rfl
 e1:=fun args W=>by kernel_rfl
 e2:=fun args W=>by kernel_rfl
 e3:=fun args W=>by kernel_rfl
 e4:=fun args W=>by kernel_rfl
 e5:=fun args W=>by kernel_rfl
 e6:=fun args W=>by kernel_rfl
 e7:=fun args W=>by kernel_rfl
 e8:=fun args W=>by kernel_rfl
 e9:=fun args W=>by kernel_rfl
 typ:=fun W h k hk=>by
  simp only [List.mem_cons,List.not_mem_nil,or_false] at hk
  rcases hk with rfl | rfl
  ·exact ⟨_,_,h.1,by decide,by decide⟩
  ·exact ⟨_,_,h.2,by decide,by decide⟩
 stay:=fun W W' h hk=>⟨(hk g (by simp)).trans h.1,(hk g2 (by simp)).trans h.2⟩
 own:=fun {W b m x} hi hs ht ok=>by
  obtain ⟨s,hps⟩:=is11 ht
  have ok2:s.Ok:=by
   have h:=ok
   rw [hps] at h
   exact h
  rw [hps]
  exact own11c PO hi.1 hs hps ok2 hi.2
 touch:=fun {W b m x} hi hs ht ok k hk=>by
  obtain ⟨s,hps⟩:=is11 ht
  have ok2:s.Ok:=by
   have h:=ok
   rw [hps] at h
   exact h
  rw [hps]
  exact touch11c PO hi.1 hs hps ok2 k hk
 adm:=fun {W b m x} hi hs ht ok k hk=>by
  obtain ⟨s,hps⟩:=is11 ht
  have ok2:s.Ok:=by
   have h:=ok
   rw [hps] at h
   exact h
  rw [hps]
  exact adm11c PO hi.1 hs hps ok2 k hk
 drop:=fun {W b m x} hi hs ht ok k hk=>by
  obtain ⟨s,hps⟩:=is11 ht
  have ok2:s.Ok:=by
   have h:=ok
   rw [hps] at h
   exact h
  rw [hps]
  exact drop11c PO hi.1 hs hps ok2 k hk
 rsz:=fun {W b m x} hi hs ht ok n h1 h2=>by
  obtain ⟨s,hps⟩:=is11 ht
  have ok2:s.Ok:=by
   have h:=ok
   rw [hps] at h
   exact h
  rw [hps]
  exact resize11c PO hi.1 hs hps ok2 n h1 h2
 has:=fun {W b m x} hi hs ht ok k hk=>by
  obtain ⟨s,hps⟩:=is11 ht
  have ok2:s.Ok:=by
   have h:=ok
   rw [hps] at h
   exact h
  rw [hps]
  exact has11c PO hi.1 hs hps ok2 k hk
 keys:=fun {W b m x} hi hs ht ok=>by
  obtain ⟨s,hps⟩:=is11 ht
  have ok2:s.Ok:=by
   have h:=ok
   rw [hps] at h
   exact h
  rw [hps]
  exact keys11c PO hi.1 hs hps ok2
 gho:=fun {W b m x} hi hs ht ok=>by
  obtain ⟨s,hps⟩:=is11 ht
  have ok2:s.Ok:=by
   have h:=ok
   rw [hps] at h
   exact h
  rw [hps]
  exact ghosts11c PO hi.1 hs hps ok2
 cap:=fun {W b m x} hi hs ht ok=>by
  obtain ⟨s,hps⟩:=is11 ht
  rw [hps]
  exact caps11c hi.1 hs hps
theorem pols11 (PO:Pol11Ok) (g g2:Nat):PolS (pf11 g g2) 4 (Iv11 g g2):=⟨fun {_ _ _} hi hb hp n h1 h2=>start11c PO hi.1 hb hp n h1 h2⟩
set_option maxHeartbeats 2000000 in
theorem over11_walk (w:World):Calls Tryz.prog 87 #[.agg cl11C] w fun e w'=>e = .returned (.agg (pf11 w.heap.size (w.heap.size+1+1)).C)/\Below w.heap.size w w'/\Iv11 w.heap.size (w.heap.size+1+1) w':=by
 have hmf:∀ (fn:Fn) (first cap:Array Value) (w:World),(Instr.makeFunc fn first cap).run Tryz.prog w = .ok (.func fn first cap) w:=fun _ _ _ _=>rfl
 go_enter Tryz.func87,Tryz.ntmps87
 go_wp2_with fail
 refine bodyPost_ret (v := .agg (pf11 w.heap.size (w.heap.size+1+1)).C) (by simp [results,Tryz.results87,go_sem]) rfl ⟨rfl,(low_two w _ _).alloc (by simp;omega) _,?_,?_⟩
 ·rw [Below.heap_alloc _ _ _ (by simp;omega),Below.heap_alloc _ _ _ (by simp)]
  exact heap_alloc_new w _
 ·have:=heap_alloc_new ((w.alloc (.cells cl11C CT11)).alloc (.cells (pf11 w.heap.size (w.heap.size+1+1)).C PolT)) (.cells #[.func (.func 185) #[] #[.pointer (some ⟨w.heap.size,0,none⟩)]] RT13_11)
  simpa using this
set_option maxHeartbeats 2000000 in
theorem policyOf11_walk (w:World):Calls Tryz.prog 28 #[.int .i64 4] w fun e w'=>e = .returned (.tuple #[.agg (pf11 (w.heap.size+1) (w.heap.size+1+1+1)).C,.bool true])/\Below w.heap.size w w'/\Iv11 (w.heap.size+1) (w.heap.size+1+1+1) w':=by
 have HO:=Lib.hid (over11_walk (w.alloc (.cells #[.nilFunc,.nilFunc,.nilFunc,.nilFunc,.nilFunc,.nilFunc,.nilFunc,.nilFunc,.nilFunc,.nilFunc] PolT)))
 have hr:=heap_alloc_new w (.cells #[.nilFunc,.nilFunc,.nilFunc,.nilFunc,.nilFunc,.nilFunc,.nilFunc,.nilFunc,.nilFunc,.nilFunc] PolT)
 have HR:=Lib.hid hr
 have HL:=Lib.hid (low_one w (.cells #[.nilFunc,.nilFunc,.nilFunc,.nilFunc,.nilFunc,.nilFunc,.nilFunc,.nilFunc,.nilFunc,.nilFunc] PolT))
 clear hr
 go_enter Tryz.func28,Tryz.ntmps28
 go_wp2_with fail
 refine HO.out.mono ?_
 rintro e w2 ⟨rfl,hb2,hi2⟩
 simp only [World.size_alloc] at hi2
 have hr2:=(hb2.block _ (head_row HR.out).lt).trans HR.out
 have HEND:Hid (∀ W,Only [w.heap.size] w2 W->Below w.heap.size w W/\Iv11 (w.heap.size+1) (w.heap.size+1+1+1) W):=Lib.hid (fun W ho=>by
  have h3:=hb2.size
  simp only [World.size_alloc] at h3
  refine ⟨(HL.out.trans (hb2.mono HL.out.size)).trans (ho.below (by simp) (by omega)),(ho.block _ (head_row hi2.1).lt (by simp)).trans hi2.1,(ho.block _ (head_row hi2.2).lt (by simp;omega)).trans hi2.2⟩)
 obtain ⟨⟨z0,z1,z2,z3,z4,z5,z6,z7,z8,z9⟩,zf⟩:=c10_at hr2
 have zf0:=zf 0
 have zf1:=zf 1
 have zf2:=zf 2
 have zf3:=zf 3
 have zf4:=zf 4
 have zf5:=zf 5
 have zf6:=zf 6
 have zf7:=zf 7
 have zf8:=zf 8
 have zf9:=zf 9
 clear hb2 hi2 hr2 HO HR HL zf
 simp only [World.size_alloc]
 go_wp2_with fail
 refine bodyPost_ret (v := .tuple #[.agg (pf11 (w.heap.size+1) (w.heap.size+1+1+1)).C,.bool true]) (by simp [results,Tryz.results28,go_sem,z0,z1,z2,z3,z4,z5,z6,z7,z8,z9]) rfl ⟨rfl,HEND.out _ ((((((((((((Only.refl _ _).setCell (by simp) _).setCell (by simp) _).setCell (by simp) _).setCell (by simp) _).setCell (by simp) _).setCell (by simp) _).setCell (by simp) _).setCell (by simp) _).setCell (by simp) _).setCell (by simp) _))⟩
end Go.Proofs.YtcpggonengkgiaaGreatDoor
