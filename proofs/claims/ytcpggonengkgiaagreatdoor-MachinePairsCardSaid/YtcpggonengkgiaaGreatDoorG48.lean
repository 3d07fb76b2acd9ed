/- Words and walks: McPr. -/
import Derived.Test.YtcpggonengkgiaaGreatDoorG45
namespace Go.Proofs.YtcpggonengkgiaaGreatDoor
open Go Go.RowKit Go.Deep
set_option maxRecDepth 8000
abbrev prO0 : Oper := { dst := some 33, op := Op.load 42 (Operand.tmp 8), type := 42, pos := "law.go:68", after := #[], guard := none }
abbrev prO1 : Oper := { dst := some 34, op := Op.move (Operand.tmp 2), type := 22, pos := "law.go:68", after := #[], guard := none }
abbrev prO2 : Oper := { dst := some 35, op := Op.move (Operand.tmp 10), type := 3, pos := "law.go:68", after := #[], guard := none }
abbrev prO3 : Oper := { dst := some 36, op := Op.indexAddr 22 (Operand.tmp 34) (Operand.tmp 35), type := 0, pos := "law.go:68", after := #[{ on := 1, ground := Ground.data }, { on := 2, ground := Ground.data }], guard := none }
abbrev prO4 : Oper := { dst := some 37, op := Op.load 63 (Operand.tmp 36), type := 63, pos := "law.go:68", after := #[{ on := 3, ground := Ground.data }], guard := none }
abbrev prO5 : Oper := { dst := some 38, op := Op.call { callee := Callee.value (Operand.func 11), args := #[Operand.tmp 33, Operand.tmp 37], argTypes := #[42, 63] }, type := 60, pos := "law.go:68", after := #[{ on := 0, ground := Ground.data }, { on := 4, ground := Ground.data }], guard := none }
abbrev prO6 : Oper := { dst := some 32, op := Op.move (Operand.tmp 38), type := 60, pos := "law.go:68", after := #[{ on := 5, ground := Ground.data }], guard := none }
abbrev prO7 : Oper := { dst := some 39, op := Op.extract (Operand.tmp 32) 0, type := 42, pos := "law.go:68", after := #[{ on := 6, ground := Ground.data }], guard := none }
abbrev prO8 : Oper := { dst := some 40, op := Op.extract (Operand.tmp 32) 1, type := 59, pos := "law.go:68", after := #[{ on := 6, ground := Ground.data }, { on := 11, ground := Ground.gcOnly Departure.lateStores }], guard := none }
abbrev prO9 : Oper := { dst := some 11, op := Op.alloc 42, type := 0, pos := "law.go:68", after := #[], guard := none }
abbrev prO10 : Oper := { dst := some 12, op := Op.alloc 59, type := 0, pos := "law.go:68", after := #[], guard := none }
abbrev prO11 : Oper := { dst := none, op := Op.store 42 (Operand.tmp 11) (Operand.tmp 39), type := 0, pos := "law.go:68", after := #[{ on := 9, ground := Ground.data }, { on := 7, ground := Ground.data }, { on := 5, ground := Ground.chain }, { on := 0, ground := Ground.phase }, { on := 1, ground := Ground.phase }, { on := 2, ground := Ground.phase }, { on := 3, ground := Ground.phase }, { on := 4, ground := Ground.phase }, { on := 5, ground := Ground.phase }, { on := 6, ground := Ground.phase }, { on := 7, ground := Ground.phase }, { on := 8, ground := Ground.textOnly Departure.lateStores }, { on := 9, ground := Ground.phase }, { on := 10, ground := Ground.phase }], guard := none }
abbrev prO12 : Oper := { dst := none, op := Op.store 59 (Operand.tmp 12) (Operand.tmp 40), type := 0, pos := "law.go:68", after := #[{ on := 10, ground := Ground.data }, { on := 8, ground := Ground.data }, { on := 11, ground := Ground.chain }, { on := 0, ground := Ground.phase }, { on := 1, ground := Ground.phase }, { on := 2, ground := Ground.phase }, { on := 3, ground := Ground.phase }, { on := 4, ground := Ground.phase }, { on := 5, ground := Ground.phase }, { on := 6, ground := Ground.phase }, { on := 7, ground := Ground.phase }, { on := 8, ground := Ground.phase }, { on := 9, ground := Ground.phase }, { on := 10, ground := Ground.phase }, { on := 11, ground := Ground.phase }], guard := none }
section
variable {w:World} {v:Value} {l:List Op13}
set_option maxHeartbeats 4000000 in
theorem pairs13_short (A:AllOk) (hE:ErrT w) (pc cn:Nat) (hp:pc < 256) (hc:cn < 256) (ha:OV w v l):Calls Tryz.prog 5 #[.int .u8 (pc:Nat),.int .u8 (cn:Nat),v] w (RetB w true):=by
 have HA:=Lib.hid A
 have HAV:=Lib.hid ha
 obtain ⟨A0,cap,rfl,hov⟩:=ha.mem
 have HOV:=Lib.hid hov
 obtain ⟨na,hna⟩:∃ na,l.length=na:=⟨_,rfl⟩
 rw [hna] at HAV ⊢
 have HNA:=Lib.hid hna
 have HE:=Lib.hid hE
 have hw0:=hE.lt
 have K0:=Lib.hid (awake13 A hE)
 clear A hE ha hov hna
 go_enter Tryz.func5,Tryz.ntmps5
 go_wp2_with fail
 refine K0.out.mono ?_
 rintro e w1 ⟨rfl,hb1⟩
 have HL1:=Lib.hid hb1
 have HAV1:=Lib.hid (HAV.out.below hb1)
 have HE1:=Lib.hid (HE.out.below hb1 hw0)
 have KF:=Lib.hid (rfew13_walk HAV1.out)
 clear hb1 K0 HAV HE
 go_wp2_with fail
 refine KF.out.mono ?_
 rintro e w1' ⟨rfl,rfl⟩
 clear KF
 cases hfw:few13 l with
 | false =>
  go_wp2
  go_ret
  exact ⟨rfl,HL1.out⟩
 | true =>
  have hlen:=few13_len hfw
  have HSM:=Lib.hid (few13_small hfw)
  have HOS:=Lib.hid (fun o (ho:o∈l)=>(show o.Ok/\o.Small from by
   obtain ⟨j,hj,rfl⟩:=List.getElem_of_mem ho
   exact ⟨(HOV.out j hj).1,HSM.out _ ho⟩))
  have KB:=Lib.hid (begin13_walk HA.out (w:=w1') pc cn hp hc)
  clear hfw
  go_wp2_with fail
  refine KB.out.mono ?_
  rintro e w2 ⟨x,y,rfl,hb2,hsx,-⟩
  obtain ⟨m0,hm0⟩:∃ m0,M13.new (1+pc % 5) ((1+cn % 12:Nat):Int)=m0:=⟨_,rfl⟩
  have hok0:m0.Ok:=by rw [<- hm0];exact M13.ok_new _ _
  have hlw0:m0.Low 0:=by rw [<- hm0];exact M13.low_new _ _
  rw [hm0] at hsx
  have HZ0:=Lib.hid (show cnC m0=#[.int .i64 0,.int .i64 0,.int .i64 0] from by rw [<- hm0];rfl)
  have HRUN:=Lib.hid (fun i:Nat=>(show (m0.run (l.take i)).Ok/\(m0.run (l.take i)).Low 1000 from ⟨hok0.run _ (fun o ho=>HOS.out o (List.mem_of_mem_take ho)),(hok0.runLow _ 0 hlw0 (fun o ho=>HOS.out o (List.mem_of_mem_take ho))).mono (by rw [List.length_take];omega)⟩))
  have t2:=st3 w2 x y
  have hl2:=hb2.trans (t2.low.mono hb2.size)
  have hl2':Below w.heap.size w _:=HL1.out.trans (hl2.mono HL1.out.size)
  have HLP:Hid (Lp w _ w2.heap.size m0):=Lib.hid ⟨hl2',HE1.out.below hl2 (by have:=HL1.out.size;omega),x,t2.box1,hsx.below t2.low⟩
  have HAV2:=Lib.hid (HAV1.out.below hl2)
  have HW2:=Lib.hid (Nat.le_trans HL1.out.size hb2.size)
  obtain ⟨V2,hV2⟩:∃ V,((((w2.alloc (.cells z13 PT13)).alloc (.cells z13 T13)).setCells w2.heap.size 0 x.C.toList).setCells (w2.heap.size+1) 0 y.C.toList)=V:=⟨_,rfl⟩
  rw [hV2] at HLP HAV2
  obtain ⟨cx,hcx⟩:∃ c,x.C=c:=⟨_,rfl⟩
  obtain ⟨cy,hcy⟩:∃ c,y.C=c:=⟨_,rfl⟩
  rw [hcx,hcy] at t2 hV2
  have T2:=Lib.hid t2
  have HCX:=Lib.hid hcx
  have HCY:=Lib.hid hcy
  have HOK0:=Lib.hid hok0
  have HLW0:=Lib.hid hlw0
  clear KB hb2 hsx t2 hl2 hl2' hcx hcy hm0 hok0 hlw0 HL1 HE1 HAV1
  go_upto_region 5 with (first | (refine wpList_store_mid rfl PT13 (.tmp 8) (.tmp 24) rfl w2.heap.size 0 cx rfl (congrArg Value.agg HCX.out) T2.out.th1 T2.out.inf1 T2.out.one1 ?_) | (refine wpList_store_mid rfl T13 (.tmp 9) (.tmp 25) rfl (w2.heap.size+1) 0 cy rfl (congrArg Value.agg HCY.out) T2.out.th2 T2.out.inf2 T2.out.one2 ?_))
  try rw [hV2]
  clear hV2 T2
  go_upto_region 6 with fail
  obtain ⟨b8,hb8⟩:∃ b,w2.heap.size=b:=⟨_,rfl⟩
  rw [hb8] at HLP ⊢
  have hwb8:w.heap.size<=b8:=by rw [<- hb8];exact HW2.out
  have HI0:=HLP
  clear HLP hb8 HAV2 HCX HCY
  go_loopg [10,11,12] na (fun gg s10 s11 s12 wr=>∃ i:Nat,i+gg=na/\s10 = .int .i64 (i:Nat)/\Hid (Lp w wr b8 (m0.run (l.take i))))
  case atStart=>exact ⟨0,by omega,rfl,HI0⟩
  case round =>
   obtain ⟨i,hi,rfl,HI⟩:=hrel
   by_cases hlt:i < na
   ·have hltI:(i:Int) < (na:Int):=by omega
    have hiI:(0:Int)<=(i:Int):=by omega
    have hil:i < l.length:=by rw [HNA.out];exact hlt
    have HNX:=Lib.hid (M13.run_next m0 hil)
    obtain ⟨ook,g,off,hAe,hg,hop⟩:=HOV.out i hil
    have osm:=HSM.out _ (List.getElem_mem hil)
    have HOKI:=Lib.hid (show (m0.run (l.take i)).Ok/\(m0.run (l.take i)).Low 1000 from HRUN.out i)
    obtain ⟨m,hm⟩:∃ m,m0.run (l.take i)=m:=⟨_,rfl⟩
    obtain ⟨o,ho⟩:∃ o,l[i]=o:=⟨_,rfl⟩
    rw [hm] at HI HNX HOKI
    rw [ho] at HNX ook osm hop
    obtain ⟨x,hbx,hsx⟩:=HI.out.box
    obtain ⟨a0,ha0⟩:∃ a,m.ans o=a:=⟨_,rfl⟩
    subst hAe
    obtain ⟨c,hc1⟩:∃ c,x.C=c:=⟨_,rfl⟩
    have HST:=Lib.hid (show ∀ W,Below wr.heap.size wr W->Calls Tryz.prog 11 #[.agg c,.agg (op13C o)] W (P13 W (m.step o) a0) from fun W hW=>by
     rw [<- hc1,<- ha0]
     exact step13_walk HA.out (HI.out.err.below hW HI.out.err.lt) (hsx.below hW) HOKI.out.1 HOKI.out.2 ook osm)
    have HSR:=Lib.hid (show ∀ W,Below wr.heap.size wr W->W.rangeAt b8 0 c.toList/\OpAt W g (off+i * 4) o from fun W hW=>by
     rw [<- hc1]
     exact ⟨range_of ((hW.block _ (head_row hbx).lt).trans hbx),hop.keep ((hW.block g (Nat.lt_of_lt_of_le hg HI.out.low.size)).trans (HI.out.low.block g hg))⟩)
    have hi24:(Tryz.prog.info? PT13).map (·.size)=some c.toList.length:=by rw [<- hc1];kernel_rfl
    have HA0:=Lib.hid ha0
    have HC1:=Lib.hid hc1
    have HBX:=Lib.hid hbx
    have HOO:=Lib.hid (And.intro ook osm)
    clear ha0 hc1 hbx hsx ook osm hop hm ho
    go_upto_region 8 with fail
    go_cut [11,12] (fun s12 s13 wx=>Af13 wr (m.step o) a0 s12 s13 wx)
    case first =>
     clear HI HLW0 HOK0 HZ0 HRUN HOS HSM HI0 HNX HOKI HOV HOO
     refine wp_region_held_drew (S:=fun W=>W.rangeAt b8 0 c.toList/\OpAt W g (off+i * 4) o) (by kernel_rfl) (HSR.out _ (Below.refl wr.heap.size wr).drew) (fun hH=>?_)
     refine wpAnyH_take (i:=0) (oi:=prO0) rfl (by kernel_rfl) (by kernel_rfl) (by kernel_rfl) (fun _ _ _ h=>h) (yieldsIf_load_mid (by rfl) PT13 (.tmp 8) rfl b8 0 rfl c.toList _ (fun W h=>h.1) Tryz.underlying42 rfl hi24) hH ?_
     simp only [Act.put,List.setIfInBounds_toArray,List.set_cons_zero,List.set_cons_succ]
     refine wpAnyH_take (i:=1) (oi:=prO1) (v := .slice (some ⟨g,off,none⟩) na cap) rfl (by kernel_rfl) (by kernel_rfl) (by kernel_rfl) (fun _ _ _ h=>h) (Or.inl ⟨by rfl,fun W hW=>?h1⟩) hH ?_
     case h1=>dsimp only [prO1];go_simp
     simp only [Act.put,List.setIfInBounds_toArray,List.set_cons_zero,List.set_cons_succ]
     refine wpAnyH_take (i:=2) (oi:=prO2) (v := .int .i64 (i:Nat)) rfl (by kernel_rfl) (by kernel_rfl) (by kernel_rfl) (fun _ _ _ h=>h) (Or.inl ⟨by rfl,fun W hW=>?h2⟩) hH ?_
     case h2=>dsimp only [prO2];go_simp
     simp only [Act.put,List.setIfInBounds_toArray,List.set_cons_zero,List.set_cons_succ]
     refine wpAnyH_take (i:=3) (oi:=prO3) (v := .pointer (some ⟨g,off+i * 4,none⟩)) rfl (by kernel_rfl) (by kernel_rfl) (by kernel_rfl) (fun _ _ _ h=>h) (Or.inl ⟨by rfl,fun W hW=>?h3⟩) hH ?_
     case h3=>dsimp only [prO3];go_simp
     simp only [Act.put,List.setIfInBounds_toArray,List.set_cons_zero,List.set_cons_succ]
     refine wpAnyH_take (i:=4) (oi:=prO4) (v := .agg (op13C o)) rfl (by kernel_rfl) (by kernel_rfl) (by kernel_rfl) (fun _ _ _ h=>h) (Or.inl ⟨by rfl,fun W hW=>?h4⟩) hH ?_
     case h4 =>
      dsimp only [prO4]
      obtain ⟨-,q0,q1,q2,q3⟩:=hW
      go_simp
     simp only [Act.put,List.setIfInBounds_toArray,List.set_cons_zero,List.set_cons_succ]
     have hb_0:=(Below.refl wr.heap.size wr).drew
     obtain ⟨W0,hW0⟩:∃ X,wr.drew=X:=⟨_,rfl⟩
     rw [hW0] at hb_0 hH ⊢
     refine wpAnyH_ready (rs:=[5,9,10]) (by kernel_rfl) (by simp) ?_
     refine AllReadyH.cons (o:=prO5) rfl (fun K hK=>?_) ?_
     ·dsimp only [prO5]
      go_simp
      refine (HST.out W0 hb_0).mono ?_
      rintro e W1 ⟨x2,F2,k2',d2,rfl,hbs,hst,hpv⟩
      have hb_1:=hb_0.trans (hbs.mono hb_0.size)
      obtain ⟨c2,hc2⟩:∃ c,x2.C=c:=⟨_,rfl⟩
      obtain ⟨a2,ha2⟩:∃ a,an13C a0.hit a0.val a0.n a0.err F2 k2' d2=a:=⟨_,rfl⟩
      rw [hc2,ha2]
      refine hK.out _ _ (HSR.out _ hb_1) (fun hH=>?_)
      try simp only [Act.put,List.setIfInBounds_toArray,List.set_cons_zero,List.set_cons_succ]
      refine wpAnyH_take (i:=6) (oi:=prO6) (v := .tuple #[.agg c2,.agg a2]) rfl (by kernel_rfl) (by kernel_rfl) (by kernel_rfl) (fun _ _ _ h=>h) (Or.inl ⟨by rfl,fun W hW=>?h6⟩) hH ?_
      case h6=>dsimp only [prO6];go_simp
      simp only [Act.put,List.setIfInBounds_toArray,List.set_cons_zero,List.set_cons_succ]
      refine wpAnyH_take (i:=7) (oi:=prO7) (v := .agg c2) rfl (by kernel_rfl) (by kernel_rfl) (by kernel_rfl) (fun _ _ _ h=>h) (Or.inl ⟨by rfl,fun W hW=>?h7⟩) hH ?_
      case h7=>dsimp only [prO7];go_simp
      simp only [Act.put,List.setIfInBounds_toArray,List.set_cons_zero,List.set_cons_succ]
      refine wpAnyH_take (i:=8) (oi:=prO8) (v := .agg a2) rfl (by kernel_rfl) (by kernel_rfl) (by kernel_rfl) (fun _ _ _ h=>h) (Or.inl ⟨by rfl,fun W hW=>?h8⟩) hH ?_
      case h8=>dsimp only [prO8];go_simp
      simp only [Act.put,List.setIfInBounds_toArray,List.set_cons_zero,List.set_cons_succ]
      refine wpAnyH_ready (rs:=[9,10]) (by kernel_rfl) (by simp) ?_
      refine AllReadyH.cons (o:=prO9) rfl (fun K hK=>?_) ?_
      ·dsimp only [prO9]
       have hb_2:=hb_1.alloc hb_1.size (.cells z13 PT13)
       obtain ⟨pA,hpAe⟩:∃ p,W1.heap.size=p:=⟨_,rfl⟩
       have hpA:wr.heap.size<=pA:=by rw [<- hpAe];exact hb_1.size
       have hA:=heap_alloc_new W1 (.cells z13 PT13)
       rw [hpAe] at hA
       replace hst:=hst.below (low_one W1 (.cells z13 PT13))
       replace hpv:=hpv.below (low_one W1 (.cells z13 PT13))
       obtain ⟨W2,hW2⟩:∃ X,W1.alloc (.cells z13 PT13)=X:=⟨_,rfl⟩
       rw [hW2] at hb_2 hA hst hpv
       go_simp
       try rw [hW2]
       try rw [hpAe]
       refine hK.out _ _ (HSR.out _ hb_2) (fun hH=>?_)
       try simp only [Act.put,List.setIfInBounds_toArray,List.set_cons_zero,List.set_cons_succ]
       refine wpAnyH_ready (rs:=[10]) (by kernel_rfl) (by simp) ?_
       refine AllReadyH.cons (o:=prO10) rfl (fun K hK=>?_) AllReadyH.nil
       dsimp only [prO10]
       have hb_3:=hb_2.alloc hb_2.size (.cells zA AnsT)
       obtain ⟨pB,hpBe⟩:∃ p,W2.heap.size=p:=⟨_,rfl⟩
       have hpB:wr.heap.size<=pB:=by rw [<- hpBe];exact hb_2.size
       have hB:=heap_alloc_new W2 (.cells zA AnsT)
       rw [hpBe] at hB
       have hAB:pA≠pB:=by have:=(head_row hA).lt;omega
       replace hA:=(Below.heap_alloc W2 (.cells zA AnsT) _ (head_row hA).lt).trans hA
       replace hst:=hst.below (low_one W2 (.cells zA AnsT))
       replace hpv:=hpv.below (low_one W2 (.cells zA AnsT))
       obtain ⟨W3,hW3⟩:∃ X,W2.alloc (.cells zA AnsT)=X:=⟨_,rfl⟩
       rw [hW3] at hb_3 hB hA hst hpv
       go_simp
       try rw [hW3]
       try rw [hpBe]
       refine hK.out _ _ (HSR.out _ hb_3) (fun hH=>?_)
       try simp only [Act.put,List.setIfInBounds_toArray,List.set_cons_zero,List.set_cons_succ]
       have hcs2:c2.size=24:=by rw [<- hc2];rfl
       have hca2:a2.size=5:=by rw [<- ha2];rfl
       refine wpAnyH_ready (rs:=[11]) (by kernel_rfl) (by simp) ?_
       refine AllReadyH.cons (o:=prO11) rfl (fun K hK=>?_) AllReadyH.nil
       dsimp only [prO11]
       rw [if_pos (show Region.wanted _ _=true from by rfl)]
       refine wp_store_mid PT13 (.tmp 11) (.tmp 39) rfl pA 0 c2 rfl rfl (by rw [hcs2];exact there_of hA rfl) (by rw [hcs2];kernel_rfl) (by rw [<- hc2];exact V13.one _) ?_
       have o1:Only [pA] W3 (W3.setCells pA 0 c2.toList):=only_setCells (by simp) _ _ _ _ (Only.refl _ _)
       have hb1:=hb_3.trans (o1.below (by simpa using hpA) hb_3.size)
       have k1:=block_whole (vs:=c2) hA (by rw [hcs2];rfl)
       have k2:=(o1.block _ (head_row hB).lt (by simpa using hAB.symm)).trans hB
       refine hK.out _ _ (HSR.out _ hb1) (fun hH=>?_)
       simp only [Act.put]
       refine wpAnyH_ready (rs:=[12]) (by kernel_rfl) (by simp) ?_
       refine AllReadyH.cons (o:=prO12) rfl (fun K hK=>?_) AllReadyH.nil
       dsimp only [prO12]
       rw [if_pos (show Region.wanted _ _=true from by rfl)]
       refine wp_store_mid AnsT (.tmp 12) (.tmp 40) rfl pB 0 a2 rfl rfl (by rw [hca2];exact there_of k2 rfl) (by rw [hca2];kernel_rfl) (by rw [<- ha2];exact an_one _ _ _ _ _ _ _) ?_
       have o2:Only [pB] (W3.setCells pA 0 c2.toList) ((W3.setCells pA 0 c2.toList).setCells pB 0 a2.toList):=only_setCells (by simp) _ _ _ _ (Only.refl _ _)
       have hb2:=hb1.trans (o2.below (by simpa using hpB) hb1.size)
       refine hK.out _ _ (HSR.out _ hb2) (fun _=>?_)
       simp only [Act.put]
       refine wpAnyH_done (by kernel_rfl) ?_ _
       have k3:=(o2.block _ (head_row k1).lt (by simpa using hAB)).trans k1
       have k4:=block_whole (vs:=a2) k2 (by rw [hca2];rfl)
       have x1:∀ j∈[pA],Bx W3 j:=fun j hj=>by
        rw [show j=pA by simpa using hj]
        exact ⟨_,_,hA,rfl,by decide⟩
       have x2':∀ j∈[pB], ∃ cs e,(W3.setCells pA 0 c2.toList).heap[j]? = some (.cells cs e (0,0))/\noUU cs.toList=true:=fun j hj=>by
        rw [show j=pB by simpa using hj]
        exact ⟨_,_,k2,rfl⟩
       have x3':∀ j∈[pB],Bn (W3.setCells pA 0 c2.toList) j:=fun j hj=>by
        rw [show j=pB by simpa using hj]
        exact ⟨_,_,_,k2,by decide⟩
       have s1:=hst.only o1 x1
       have s2:St13 _ _ _:=⟨s1.pol.onlyN o2 x3',s1.prs.onlyA o2 x2',s1.hi,s1.mi,s1.ev⟩
       have s3:=(hpv.only o1 x1).onlyA o2 x2'
       have HF:=Lib.hid (show Af13 wr (m.step o) a0 (.pointer (some ⟨pA,0,none⟩)) (.pointer (some ⟨pB,0,none⟩)) ((W3.setCells pA 0 c2.toList).setCells pB 0 a2.toList) from ⟨pA,pB,x2,F2,k2',d2,rfl,rfl,hb2,hpA,hpB,hAB,by rw [hc2];exact k3,by rw [ha2];exact k4,s2,s3⟩)
       clear hb2 k1 k2 k3 k4 s1 s2 s3 o1 o2 x1 x2' x3' hb1 hA hB hst hpv hH
       go_wp2_with fail
       go_meet
       exact HF.out
      refine AllReadyH.cons (o:=prO10) rfl (fun K hK=>?_) AllReadyH.nil
      dsimp only [prO10]
      have hb_2:=hb_1.alloc hb_1.size (.cells zA AnsT)
      obtain ⟨pB,hpBe⟩:∃ p,W1.heap.size=p:=⟨_,rfl⟩
      have hpB:wr.heap.size<=pB:=by rw [<- hpBe];exact hb_1.size
      have hB:=heap_alloc_new W1 (.cells zA AnsT)
      rw [hpBe] at hB
      replace hst:=hst.below (low_one W1 (.cells zA AnsT))
      replace hpv:=hpv.below (low_one W1 (.cells zA AnsT))
      obtain ⟨W2,hW2⟩:∃ X,W1.alloc (.cells zA AnsT)=X:=⟨_,rfl⟩
      rw [hW2] at hb_2 hB hst hpv
      go_simp
      try rw [hW2]
      try rw [hpBe]
      refine hK.out _ _ (HSR.out _ hb_2) (fun hH=>?_)
      try simp only [Act.put,List.setIfInBounds_toArray,List.set_cons_zero,List.set_cons_succ]
      refine wpAnyH_ready (rs:=[9]) (by kernel_rfl) (by simp) ?_
      refine AllReadyH.cons (o:=prO9) rfl (fun K hK=>?_) AllReadyH.nil
      dsimp only [prO9]
      have hb_3:=hb_2.alloc hb_2.size (.cells z13 PT13)
      obtain ⟨pA,hpAe⟩:∃ p,W2.heap.size=p:=⟨_,rfl⟩
      have hpA:wr.heap.size<=pA:=by rw [<- hpAe];exact hb_2.size
      have hA:=heap_alloc_new W2 (.cells z13 PT13)
      rw [hpAe] at hA
      have hAB:pA≠pB:=by have:=(head_row hB).lt;omega
      replace hB:=(Below.heap_alloc W2 (.cells z13 PT13) _ (head_row hB).lt).trans hB
      replace hst:=hst.below (low_one W2 (.cells z13 PT13))
      replace hpv:=hpv.below (low_one W2 (.cells z13 PT13))
      obtain ⟨W3,hW3⟩:∃ X,W2.alloc (.cells z13 PT13)=X:=⟨_,rfl⟩
      rw [hW3] at hb_3 hA hB hst hpv
      go_simp
      try rw [hW3]
      try rw [hpAe]
      refine hK.out _ _ (HSR.out _ hb_3) (fun hH=>?_)
      try simp only [Act.put,List.setIfInBounds_toArray,List.set_cons_zero,List.set_cons_succ]
      have hcs2:c2.size=24:=by rw [<- hc2];rfl
      have hca2:a2.size=5:=by rw [<- ha2];rfl
      refine wpAnyH_ready (rs:=[11]) (by kernel_rfl) (by simp) ?_
      refine AllReadyH.cons (o:=prO11) rfl (fun K hK=>?_) AllReadyH.nil
      dsimp only [prO11]
      rw [if_pos (show Region.wanted _ _=true from by rfl)]
      refine wp_store_mid PT13 (.tmp 11) (.tmp 39) rfl pA 0 c2 rfl rfl (by rw [hcs2];exact there_of hA rfl) (by rw [hcs2];kernel_rfl) (by rw [<- hc2];exact V13.one _) ?_
      have o1:Only [pA] W3 (W3.setCells pA 0 c2.toList):=only_setCells (by simp) _ _ _ _ (Only.refl _ _)
      have hb1:=hb_3.trans (o1.below (by simpa using hpA) hb_3.size)
      have k1:=block_whole (vs:=c2) hA (by rw [hcs2];rfl)
      have k2:=(o1.block _ (head_row hB).lt (by simpa using hAB.symm)).trans hB
      refine hK.out _ _ (HSR.out _ hb1) (fun hH=>?_)
      simp only [Act.put]
      refine wpAnyH_ready (rs:=[12]) (by kernel_rfl) (by simp) ?_
      refine AllReadyH.cons (o:=prO12) rfl (fun K hK=>?_) AllReadyH.nil
      dsimp only [prO12]
      rw [if_pos (show Region.wanted _ _=true from by rfl)]
      refine wp_store_mid AnsT (.tmp 12) (.tmp 40) rfl pB 0 a2 rfl rfl (by rw [hca2];exact there_of k2 rfl) (by rw [hca2];kernel_rfl) (by rw [<- ha2];exact an_one _ _ _ _ _ _ _) ?_
      have o2:Only [pB] (W3.setCells pA 0 c2.toList) ((W3.setCells pA 0 c2.toList).setCells pB 0 a2.toList):=only_setCells (by simp) _ _ _ _ (Only.refl _ _)
      have hb2:=hb1.trans (o2.below (by simpa using hpB) hb1.size)
      refine hK.out _ _ (HSR.out _ hb2) (fun _=>?_)
      simp only [Act.put]
      refine wpAnyH_done (by kernel_rfl) ?_ _
      have k3:=(o2.block _ (head_row k1).lt (by simpa using hAB)).trans k1
      have k4:=block_whole (vs:=a2) k2 (by rw [hca2];rfl)
      have x1:∀ j∈[pA],Bx W3 j:=fun j hj=>by
       rw [show j=pA by simpa using hj]
       exact ⟨_,_,hA,rfl,by decide⟩
      have x2':∀ j∈[pB], ∃ cs e,(W3.setCells pA 0 c2.toList).heap[j]? = some (.cells cs e (0,0))/\noUU cs.toList=true:=fun j hj=>by
       rw [show j=pB by simpa using hj]
       exact ⟨_,_,k2,rfl⟩
      have x3':∀ j∈[pB],Bn (W3.setCells pA 0 c2.toList) j:=fun j hj=>by
       rw [show j=pB by simpa using hj]
       exact ⟨_,_,_,k2,by decide⟩
      have s1:=hst.only o1 x1
      have s2:St13 _ _ _:=⟨s1.pol.onlyN o2 x3',s1.prs.onlyA o2 x2',s1.hi,s1.mi,s1.ev⟩
      have s3:=(hpv.only o1 x1).onlyA o2 x2'
      have HF:=Lib.hid (show Af13 wr (m.step o) a0 (.pointer (some ⟨pA,0,none⟩)) (.pointer (some ⟨pB,0,none⟩)) ((W3.setCells pA 0 c2.toList).setCells pB 0 a2.toList) from ⟨pA,pB,x2,F2,k2',d2,rfl,rfl,hb2,hpA,hpB,hAB,by rw [hc2];exact k3,by rw [ha2];exact k4,s2,s3⟩)
      clear hb2 k1 k2 k3 k4 s1 s2 s3 o1 o2 x1 x2' x3' hb1 hA hB hst hpv hH
      go_wp2_with fail
      go_meet
      exact HF.out
     refine AllReadyH.cons (o:=prO9) rfl (fun K hK=>?_) ?_
     ·dsimp only [prO9]
      have hb_1:=hb_0.alloc hb_0.size (.cells z13 PT13)
      obtain ⟨pA,hpAe⟩:∃ p,W0.heap.size=p:=⟨_,rfl⟩
      have hpA:wr.heap.size<=pA:=by rw [<- hpAe];exact hb_0.size
      have hA:=heap_alloc_new W0 (.cells z13 PT13)
      rw [hpAe] at hA
      obtain ⟨W1,hW1⟩:∃ X,W0.alloc (.cells z13 PT13)=X:=⟨_,rfl⟩
      rw [hW1] at hb_1 hA
      go_simp
      try rw [hW1]
      try rw [hpAe]
      refine hK.out _ _ (HSR.out _ hb_1) (fun hH=>?_)
      try simp only [Act.put,List.setIfInBounds_toArray,List.set_cons_zero,List.set_cons_succ]
      refine wpAnyH_ready (rs:=[5,10]) (by kernel_rfl) (by simp) ?_
      refine AllReadyH.cons (o:=prO5) rfl (fun K hK=>?_) ?_
      ·dsimp only [prO5]
       go_simp
       refine (HST.out W1 hb_1).mono ?_
       rintro e W2 ⟨x2,F2,k2',d2,rfl,hbs,hst,hpv⟩
       have hb_2:=hb_1.trans (hbs.mono hb_1.size)
       replace hA:=(hbs.block _ (head_row hA).lt).trans hA
       obtain ⟨c2,hc2⟩:∃ c,x2.C=c:=⟨_,rfl⟩
       obtain ⟨a2,ha2⟩:∃ a,an13C a0.hit a0.val a0.n a0.err F2 k2' d2=a:=⟨_,rfl⟩
       rw [hc2,ha2]
       refine hK.out _ _ (HSR.out _ hb_2) (fun hH=>?_)
       try simp only [Act.put,List.setIfInBounds_toArray,List.set_cons_zero,List.set_cons_succ]
       refine wpAnyH_take (i:=6) (oi:=prO6) (v := .tuple #[.agg c2,.agg a2]) rfl (by kernel_rfl) (by kernel_rfl) (by kernel_rfl) (fun _ _ _ h=>h) (Or.inl ⟨by rfl,fun W hW=>?h6⟩) hH ?_
       case h6=>dsimp only [prO6];go_simp
       simp only [Act.put,List.setIfInBounds_toArray,List.set_cons_zero,List.set_cons_succ]
       refine wpAnyH_take (i:=7) (oi:=prO7) (v := .agg c2) rfl (by kernel_rfl) (by kernel_rfl) (by kernel_rfl) (fun _ _ _ h=>h) (Or.inl ⟨by rfl,fun W hW=>?h7⟩) hH ?_
       case h7=>dsimp only [prO7];go_simp
       simp only [Act.put,List.setIfInBounds_toArray,List.set_cons_zero,List.set_cons_succ]
       refine wpAnyH_take (i:=8) (oi:=prO8) (v := .agg a2) rfl (by kernel_rfl) (by kernel_rfl) (by kernel_rfl) (fun _ _ _ h=>h) (Or.inl ⟨by rfl,fun W hW=>?h8⟩) hH ?_
       case h8=>dsimp only [prO8];go_simp
       simp only [Act.put,List.setIfInBounds_toArray,List.set_cons_zero,List.set_cons_succ]
       refine wpAnyH_ready (rs:=[10]) (by kernel_rfl) (by simp) ?_
       refine AllReadyH.cons (o:=prO10) rfl (fun K hK=>?_) AllReadyH.nil
       dsimp only [prO10]
       have hb_3:=hb_2.alloc hb_2.size (.cells zA AnsT)
       obtain ⟨pB,hpBe⟩:∃ p,W2.heap.size=p:=⟨_,rfl⟩
       have hpB:wr.heap.size<=pB:=by rw [<- hpBe];exact hb_2.size
       have hB:=heap_alloc_new W2 (.cells zA AnsT)
       rw [hpBe] at hB
       have hAB:pA≠pB:=by have:=(head_row hA).lt;omega
       replace hA:=(Below.heap_alloc W2 (.cells zA AnsT) _ (head_row hA).lt).trans hA
       replace hst:=hst.below (low_one W2 (.cells zA AnsT))
       replace hpv:=hpv.below (low_one W2 (.cells zA AnsT))
       obtain ⟨W3,hW3⟩:∃ X,W2.alloc (.cells zA AnsT)=X:=⟨_,rfl⟩
       rw [hW3] at hb_3 hB hA hst hpv
       go_simp
       try rw [hW3]
       try rw [hpBe]
       refine hK.out _ _ (HSR.out _ hb_3) (fun hH=>?_)
       try simp only [Act.put,List.setIfInBounds_toArray,List.set_cons_zero,List.set_cons_succ]
       have hcs2:c2.size=24:=by rw [<- hc2];rfl
       have hca2:a2.size=5:=by rw [<- ha2];rfl
       refine wpAnyH_ready (rs:=[11]) (by kernel_rfl) (by simp) ?_
       refine AllReadyH.cons (o:=prO11) rfl (fun K hK=>?_) AllReadyH.nil
       dsimp only [prO11]
       rw [if_pos (show Region.wanted _ _=true from by rfl)]
       refine wp_store_mid PT13 (.tmp 11) (.tmp 39) rfl pA 0 c2 rfl rfl (by rw [hcs2];exact there_of hA rfl) (by rw [hcs2];kernel_rfl) (by rw [<- hc2];exact V13.one _) ?_
       have o1:Only [pA] W3 (W3.setCells pA 0 c2.toList):=only_setCells (by simp) _ _ _ _ (Only.refl _ _)
       have hb1:=hb_3.trans (o1.below (by simpa using hpA) hb_3.size)
       have k1:=block_whole (vs:=c2) hA (by rw [hcs2];rfl)
       have k2:=(o1.block _ (head_row hB).lt (by simpa using hAB.symm)).trans hB
       refine hK.out _ _ (HSR.out _ hb1) (fun hH=>?_)
       simp only [Act.put]
       refine wpAnyH_ready (rs:=[12]) (by kernel_rfl) (by simp) ?_
       refine AllReadyH.cons (o:=prO12) rfl (fun K hK=>?_) AllReadyH.nil
       dsimp only [prO12]
       rw [if_pos (show Region.wanted _ _=true from by rfl)]
       refine wp_store_mid AnsT (.tmp 12) (.tmp 40) rfl pB 0 a2 rfl rfl (by rw [hca2];exact there_of k2 rfl) (by rw [hca2];kernel_rfl) (by rw [<- ha2];exact an_one _ _ _ _ _ _ _) ?_
       have o2:Only [pB] (W3.setCells pA 0 c2.toList) ((W3.setCells pA 0 c2.toList).setCells pB 0 a2.toList):=only_setCells (by simp) _ _ _ _ (Only.refl _ _)
       have hb2:=hb1.trans (o2.below (by simpa using hpB) hb1.size)
       refine hK.out _ _ (HSR.out _ hb2) (fun _=>?_)
       simp only [Act.put]
       refine wpAnyH_done (by kernel_rfl) ?_ _
       have k3:=(o2.block _ (head_row k1).lt (by simpa using hAB)).trans k1
       have k4:=block_whole (vs:=a2) k2 (by rw [hca2];rfl)
       have x1:∀ j∈[pA],Bx W3 j:=fun j hj=>by
        rw [show j=pA by simpa using hj]
        exact ⟨_,_,hA,rfl,by decide⟩
       have x2':∀ j∈[pB], ∃ cs e,(W3.setCells pA 0 c2.toList).heap[j]? = some (.cells cs e (0,0))/\noUU cs.toList=true:=fun j hj=>by
        rw [show j=pB by simpa using hj]
        exact ⟨_,_,k2,rfl⟩
       have x3':∀ j∈[pB],Bn (W3.setCells pA 0 c2.toList) j:=fun j hj=>by
        rw [show j=pB by simpa using hj]
        exact ⟨_,_,_,k2,by decide⟩
       have s1:=hst.only o1 x1
       have s2:St13 _ _ _:=⟨s1.pol.onlyN o2 x3',s1.prs.onlyA o2 x2',s1.hi,s1.mi,s1.ev⟩
       have s3:=(hpv.only o1 x1).onlyA o2 x2'
       have HF:=Lib.hid (show Af13 wr (m.step o) a0 (.pointer (some ⟨pA,0,none⟩)) (.pointer (some ⟨pB,0,none⟩)) ((W3.setCells pA 0 c2.toList).setCells pB 0 a2.toList) from ⟨pA,pB,x2,F2,k2',d2,rfl,rfl,hb2,hpA,hpB,hAB,by rw [hc2];exact k3,by rw [ha2];exact k4,s2,s3⟩)
       clear hb2 k1 k2 k3 k4 s1 s2 s3 o1 o2 x1 x2' x3' hb1 hA hB hst hpv hH
       go_wp2_with fail
       go_meet
       exact HF.out
      refine AllReadyH.cons (o:=prO10) rfl (fun K hK=>?_) AllReadyH.nil
      dsimp only [prO10]
      have hb_2:=hb_1.alloc hb_1.size (.cells zA AnsT)
      obtain ⟨pB,hpBe⟩:∃ p,W1.heap.size=p:=⟨_,rfl⟩
      have hpB:wr.heap.size<=pB:=by rw [<- hpBe];exact hb_1.size
      have hB:=heap_alloc_new W1 (.cells zA AnsT)
      rw [hpBe] at hB
      have hAB:pA≠pB:=by have:=(head_row hA).lt;omega
      replace hA:=(Below.heap_alloc W1 (.cells zA AnsT) _ (head_row hA).lt).trans hA
      obtain ⟨W2,hW2⟩:∃ X,W1.alloc (.cells zA AnsT)=X:=⟨_,rfl⟩
      rw [hW2] at hb_2 hB hA
      go_simp
      try rw [hW2]
      try rw [hpBe]
      refine hK.out _ _ (HSR.out _ hb_2) (fun hH=>?_)
      try simp only [Act.put,List.setIfInBounds_toArray,List.set_cons_zero,List.set_cons_succ]
      refine wpAnyH_ready (rs:=[5]) (by kernel_rfl) (by simp) ?_
      refine AllReadyH.cons (o:=prO5) rfl (fun K hK=>?_) AllReadyH.nil
      dsimp only [prO5]
      go_simp
      refine (HST.out W2 hb_2).mono ?_
      rintro e W3 ⟨x2,F2,k2',d2,rfl,hbs,hst,hpv⟩
      have hb_3:=hb_2.trans (hbs.mono hb_2.size)
      replace hA:=(hbs.block _ (head_row hA).lt).trans hA
      replace hB:=(hbs.block _ (head_row hB).lt).trans hB
      obtain ⟨c2,hc2⟩:∃ c,x2.C=c:=⟨_,rfl⟩
      obtain ⟨a2,ha2⟩:∃ a,an13C a0.hit a0.val a0.n a0.err F2 k2' d2=a:=⟨_,rfl⟩
      rw [hc2,ha2]
      refine hK.out _ _ (HSR.out _ hb_3) (fun hH=>?_)
      try simp only [Act.put,List.setIfInBounds_toArray,List.set_cons_zero,List.set_cons_succ]
      refine wpAnyH_take (i:=6) (oi:=prO6) (v := .tuple #[.agg c2,.agg a2]) rfl (by kernel_rfl) (by kernel_rfl) (by kernel_rfl) (fun _ _ _ h=>h) (Or.inl ⟨by rfl,fun W hW=>?h6⟩) hH ?_
      case h6=>dsimp only [prO6];go_simp
      simp only [Act.put,List.setIfInBounds_toArray,List.set_cons_zero,List.set_cons_succ]
      refine wpAnyH_take (i:=7) (oi:=prO7) (v := .agg c2) rfl (by kernel_rfl) (by kernel_rfl) (by kernel_rfl) (fun _ _ _ h=>h) (Or.inl ⟨by rfl,fun W hW=>?h7⟩) hH ?_
      case h7=>dsimp only [prO7];go_simp
      simp only [Act.put,List.setIfInBounds_toArray,List.set_cons_zero,List.set_cons_succ]
      refine wpAnyH_take (i:=8) (oi:=prO8) (v := .agg a2) rfl (by kernel_rfl) (by kernel_rfl) (by kernel_rfl) (fun _ _ _ h=>h) (Or.inl ⟨by rfl,fun W hW=>?h8⟩) hH ?_
      case h8=>dsimp only [prO8];go_simp
      simp only [Act.put,List.setIfInBounds_toArray,List.set_cons_zero,List.set_cons_succ]
      have hcs2:c2.size=24:=by rw [<- hc2];rfl
      have hca2:a2.size=5:=by rw [<- ha2];rfl
      refine wpAnyH_ready (rs:=[11]) (by kernel_rfl) (by simp) ?_
      refine AllReadyH.cons (o:=prO11) rfl (fun K hK=>?_) AllReadyH.nil
      dsimp only [prO11]
      rw [if_pos (show Region.wanted _ _=true from by rfl)]
      refine wp_store_mid PT13 (.tmp 11) (.tmp 39) rfl pA 0 c2 rfl rfl (by rw [hcs2];exact there_of hA rfl) (by rw [hcs2];kernel_rfl) (by rw [<- hc2];exact V13.one _) ?_
      have o1:Only [pA] W3 (W3.setCells pA 0 c2.toList):=only_setCells (by simp) _ _ _ _ (Only.refl _ _)
      have hb1:=hb_3.trans (o1.below (by simpa using hpA) hb_3.size)
      have k1:=block_whole (vs:=c2) hA (by rw [hcs2];rfl)
      have k2:=(o1.block _ (head_row hB).lt (by simpa using hAB.symm)).trans hB
      refine hK.out _ _ (HSR.out _ hb1) (fun hH=>?_)
      simp only [Act.put]
      refine wpAnyH_ready (rs:=[12]) (by kernel_rfl) (by simp) ?_
      refine AllReadyH.cons (o:=prO12) rfl (fun K hK=>?_) AllReadyH.nil
      dsimp only [prO12]
      rw [if_pos (show Region.wanted _ _=true from by rfl)]
      refine wp_store_mid AnsT (.tmp 12) (.tmp 40) rfl pB 0 a2 rfl rfl (by rw [hca2];exact there_of k2 rfl) (by rw [hca2];kernel_rfl) (by rw [<- ha2];exact an_one _ _ _ _ _ _ _) ?_
      have o2:Only [pB] (W3.setCells pA 0 c2.toList) ((W3.setCells pA 0 c2.toList).setCells pB 0 a2.toList):=only_setCells (by simp) _ _ _ _ (Only.refl _ _)
      have hb2:=hb1.trans (o2.below (by simpa using hpB) hb1.size)
      refine hK.out _ _ (HSR.out _ hb2) (fun _=>?_)
      simp only [Act.put]
      refine wpAnyH_done (by kernel_rfl) ?_ _
      have k3:=(o2.block _ (head_row k1).lt (by simpa using hAB)).trans k1
      have k4:=block_whole (vs:=a2) k2 (by rw [hca2];rfl)
      have x1:∀ j∈[pA],Bx W3 j:=fun j hj=>by
       rw [show j=pA by simpa using hj]
       exact ⟨_,_,hA,rfl,by decide⟩
      have x2':∀ j∈[pB], ∃ cs e,(W3.setCells pA 0 c2.toList).heap[j]? = some (.cells cs e (0,0))/\noUU cs.toList=true:=fun j hj=>by
       rw [show j=pB by simpa using hj]
       exact ⟨_,_,k2,rfl⟩
      have x3':∀ j∈[pB],Bn (W3.setCells pA 0 c2.toList) j:=fun j hj=>by
       rw [show j=pB by simpa using hj]
       exact ⟨_,_,_,k2,by decide⟩
      have s1:=hst.only o1 x1
      have s2:St13 _ _ _:=⟨s1.pol.onlyN o2 x3',s1.prs.onlyA o2 x2',s1.hi,s1.mi,s1.ev⟩
      have s3:=(hpv.only o1 x1).onlyA o2 x2'
      have HF:=Lib.hid (show Af13 wr (m.step o) a0 (.pointer (some ⟨pA,0,none⟩)) (.pointer (some ⟨pB,0,none⟩)) ((W3.setCells pA 0 c2.toList).setCells pB 0 a2.toList) from ⟨pA,pB,x2,F2,k2',d2,rfl,rfl,hb2,hpA,hpB,hAB,by rw [hc2];exact k3,by rw [ha2];exact k4,s2,s3⟩)
      clear hb2 k1 k2 k3 k4 s1 s2 s3 o1 o2 x1 x2' x3' hb1 hA hB hst hpv hH
      go_wp2_with fail
      go_meet
      exact HF.out
     refine AllReadyH.cons (o:=prO10) rfl (fun K hK=>?_) AllReadyH.nil
     dsimp only [prO10]
     have hb_1:=hb_0.alloc hb_0.size (.cells zA AnsT)
     obtain ⟨pB,hpBe⟩:∃ p,W0.heap.size=p:=⟨_,rfl⟩
     have hpB:wr.heap.size<=pB:=by rw [<- hpBe];exact hb_0.size
     have hB:=heap_alloc_new W0 (.cells zA AnsT)
     rw [hpBe] at hB
     obtain ⟨W1,hW1⟩:∃ X,W0.alloc (.cells zA AnsT)=X:=⟨_,rfl⟩
     rw [hW1] at hb_1 hB
     go_simp
     try rw [hW1]
     try rw [hpBe]
     refine hK.out _ _ (HSR.out _ hb_1) (fun hH=>?_)
     try simp only [Act.put,List.setIfInBounds_toArray,List.set_cons_zero,List.set_cons_succ]
     refine wpAnyH_ready (rs:=[5,9]) (by kernel_rfl) (by simp) ?_
     refine AllReadyH.cons (o:=prO5) rfl (fun K hK=>?_) ?_
     ·dsimp only [prO5]
      go_simp
      refine (HST.out W1 hb_1).mono ?_
      rintro e W2 ⟨x2,F2,k2',d2,rfl,hbs,hst,hpv⟩
      have hb_2:=hb_1.trans (hbs.mono hb_1.size)
      replace hB:=(hbs.block _ (head_row hB).lt).trans hB
      obtain ⟨c2,hc2⟩:∃ c,x2.C=c:=⟨_,rfl⟩
      obtain ⟨a2,ha2⟩:∃ a,an13C a0.hit a0.val a0.n a0.err F2 k2' d2=a:=⟨_,rfl⟩
      rw [hc2,ha2]
      refine hK.out _ _ (HSR.out _ hb_2) (fun hH=>?_)
      try simp only [Act.put,List.setIfInBounds_toArray,List.set_cons_zero,List.set_cons_succ]
      refine wpAnyH_take (i:=6) (oi:=prO6) (v := .tuple #[.agg c2,.agg a2]) rfl (by kernel_rfl) (by kernel_rfl) (by kernel_rfl) (fun _ _ _ h=>h) (Or.inl ⟨by rfl,fun W hW=>?h6⟩) hH ?_
      case h6=>dsimp only [prO6];go_simp
      simp only [Act.put,List.setIfInBounds_toArray,List.set_cons_zero,List.set_cons_succ]
      refine wpAnyH_take (i:=7) (oi:=prO7) (v := .agg c2) rfl (by kernel_rfl) (by kernel_rfl) (by kernel_rfl) (fun _ _ _ h=>h) (Or.inl ⟨by rfl,fun W hW=>?h7⟩) hH ?_
      case h7=>dsimp only [prO7];go_simp
      simp only [Act.put,List.setIfInBounds_toArray,List.set_cons_zero,List.set_cons_succ]
      refine wpAnyH_take (i:=8) (oi:=prO8) (v := .agg a2) rfl (by kernel_rfl) (by kernel_rfl) (by kernel_rfl) (fun _ _ _ h=>h) (Or.inl ⟨by rfl,fun W hW=>?h8⟩) hH ?_
      case h8=>dsimp only [prO8];go_simp
      simp only [Act.put,List.setIfInBounds_toArray,List.set_cons_zero,List.set_cons_succ]
      refine wpAnyH_ready (rs:=[9]) (by kernel_rfl) (by simp) ?_
      refine AllReadyH.cons (o:=prO9) rfl (fun K hK=>?_) AllReadyH.nil
      dsimp only [prO9]
      have hb_3:=hb_2.alloc hb_2.size (.cells z13 PT13)
      obtain ⟨pA,hpAe⟩:∃ p,W2.heap.size=p:=⟨_,rfl⟩
      have hpA:wr.heap.size<=pA:=by rw [<- hpAe];exact hb_2.size
      have hA:=heap_alloc_new W2 (.cells z13 PT13)
      rw [hpAe] at hA
      have hAB:pA≠pB:=by have:=(head_row hB).lt;omega
      replace hB:=(Below.heap_alloc W2 (.cells z13 PT13) _ (head_row hB).lt).trans hB
      replace hst:=hst.below (low_one W2 (.cells z13 PT13))
      replace hpv:=hpv.below (low_one W2 (.cells z13 PT13))
      obtain ⟨W3,hW3⟩:∃ X,W2.alloc (.cells z13 PT13)=X:=⟨_,rfl⟩
      rw [hW3] at hb_3 hA hB hst hpv
      go_simp
      try rw [hW3]
      try rw [hpAe]
      refine hK.out _ _ (HSR.out _ hb_3) (fun hH=>?_)
      try simp only [Act.put,List.setIfInBounds_toArray,List.set_cons_zero,List.set_cons_succ]
      have hcs2:c2.size=24:=by rw [<- hc2];rfl
      have hca2:a2.size=5:=by rw [<- ha2];rfl
      refine wpAnyH_ready (rs:=[11]) (by kernel_rfl) (by simp) ?_
      refine AllReadyH.cons (o:=prO11) rfl (fun K hK=>?_) AllReadyH.nil
      dsimp only [prO11]
      rw [if_pos (show Region.wanted _ _=true from by rfl)]
      refine wp_store_mid PT13 (.tmp 11) (.tmp 39) rfl pA 0 c2 rfl rfl (by rw [hcs2];exact there_of hA rfl) (by rw [hcs2];kernel_rfl) (by rw [<- hc2];exact V13.one _) ?_
      have o1:Only [pA] W3 (W3.setCells pA 0 c2.toList):=only_setCells (by simp) _ _ _ _ (Only.refl _ _)
      have hb1:=hb_3.trans (o1.below (by simpa using hpA) hb_3.size)
      have k1:=block_whole (vs:=c2) hA (by rw [hcs2];rfl)
      have k2:=(o1.block _ (head_row hB).lt (by simpa using hAB.symm)).trans hB
      refine hK.out _ _ (HSR.out _ hb1) (fun hH=>?_)
      simp only [Act.put]
      refine wpAnyH_ready (rs:=[12]) (by kernel_rfl) (by simp) ?_
      refine AllReadyH.cons (o:=prO12) rfl (fun K hK=>?_) AllReadyH.nil
      dsimp only [prO12]
      rw [if_pos (show Region.wanted _ _=true from by rfl)]
      refine wp_store_mid AnsT (.tmp 12) (.tmp 40) rfl pB 0 a2 rfl rfl (by rw [hca2];exact there_of k2 rfl) (by rw [hca2];kernel_rfl) (by rw [<- ha2];exact an_one _ _ _ _ _ _ _) ?_
      have o2:Only [pB] (W3.setCells pA 0 c2.toList) ((W3.setCells pA 0 c2.toList).setCells pB 0 a2.toList):=only_setCells (by simp) _ _ _ _ (Only.refl _ _)
      have hb2:=hb1.trans (o2.below (by simpa using hpB) hb1.size)
      refine hK.out _ _ (HSR.out _ hb2) (fun _=>?_)
      simp only [Act.put]
      refine wpAnyH_done (by kernel_rfl) ?_ _
      have k3:=(o2.block _ (head_row k1).lt (by simpa using hAB)).trans k1
      have k4:=block_whole (vs:=a2) k2 (by rw [hca2];rfl)
      have x1:∀ j∈[pA],Bx W3 j:=fun j hj=>by
       rw [show j=pA by simpa using hj]
       exact ⟨_,_,hA,rfl,by decide⟩
      have x2':∀ j∈[pB], ∃ cs e,(W3.setCells pA 0 c2.toList).heap[j]? = some (.cells cs e (0,0))/\noUU cs.toList=true:=fun j hj=>by
       rw [show j=pB by simpa using hj]
       exact ⟨_,_,k2,rfl⟩
      have x3':∀ j∈[pB],Bn (W3.setCells pA 0 c2.toList) j:=fun j hj=>by
       rw [show j=pB by simpa using hj]
       exact ⟨_,_,_,k2,by decide⟩
      have s1:=hst.only o1 x1
      have s2:St13 _ _ _:=⟨s1.pol.onlyN o2 x3',s1.prs.onlyA o2 x2',s1.hi,s1.mi,s1.ev⟩
      have s3:=(hpv.only o1 x1).onlyA o2 x2'
      have HF:=Lib.hid (show Af13 wr (m.step o) a0 (.pointer (some ⟨pA,0,none⟩)) (.pointer (some ⟨pB,0,none⟩)) ((W3.setCells pA 0 c2.toList).setCells pB 0 a2.toList) from ⟨pA,pB,x2,F2,k2',d2,rfl,rfl,hb2,hpA,hpB,hAB,by rw [hc2];exact k3,by rw [ha2];exact k4,s2,s3⟩)
      clear hb2 k1 k2 k3 k4 s1 s2 s3 o1 o2 x1 x2' x3' hb1 hA hB hst hpv hH
      go_wp2_with fail
      go_meet
      exact HF.out
     refine AllReadyH.cons (o:=prO9) rfl (fun K hK=>?_) AllReadyH.nil
     dsimp only [prO9]
     have hb_2:=hb_1.alloc hb_1.size (.cells z13 PT13)
     obtain ⟨pA,hpAe⟩:∃ p,W1.heap.size=p:=⟨_,rfl⟩
     have hpA:wr.heap.size<=pA:=by rw [<- hpAe];exact hb_1.size
     have hA:=heap_alloc_new W1 (.cells z13 PT13)
     rw [hpAe] at hA
     have hAB:pA≠pB:=by have:=(head_row hB).lt;omega
     replace hB:=(Below.heap_alloc W1 (.cells z13 PT13) _ (head_row hB).lt).trans hB
     obtain ⟨W2,hW2⟩:∃ X,W1.alloc (.cells z13 PT13)=X:=⟨_,rfl⟩
     rw [hW2] at hb_2 hA hB
     go_simp
     try rw [hW2]
     try rw [hpAe]
     refine hK.out _ _ (HSR.out _ hb_2) (fun hH=>?_)
     try simp only [Act.put,List.setIfInBounds_toArray,List.set_cons_zero,List.set_cons_succ]
     refine wpAnyH_ready (rs:=[5]) (by kernel_rfl) (by simp) ?_
     refine AllReadyH.cons (o:=prO5) rfl (fun K hK=>?_) AllReadyH.nil
     dsimp only [prO5]
     go_simp
     refine (HST.out W2 hb_2).mono ?_
     rintro e W3 ⟨x2,F2,k2',d2,rfl,hbs,hst,hpv⟩
     have hb_3:=hb_2.trans (hbs.mono hb_2.size)
     replace hA:=(hbs.block _ (head_row hA).lt).trans hA
     replace hB:=(hbs.block _ (head_row hB).lt).trans hB
     obtain ⟨c2,hc2⟩:∃ c,x2.C=c:=⟨_,rfl⟩
     obtain ⟨a2,ha2⟩:∃ a,an13C a0.hit a0.val a0.n a0.err F2 k2' d2=a:=⟨_,rfl⟩
     rw [hc2,ha2]
     refine hK.out _ _ (HSR.out _ hb_3) (fun hH=>?_)
     try simp only [Act.put,List.setIfInBounds_toArray,List.set_cons_zero,List.set_cons_succ]
     refine wpAnyH_take (i:=6) (oi:=prO6) (v := .tuple #[.agg c2,.agg a2]) rfl (by kernel_rfl) (by kernel_rfl) (by kernel_rfl) (fun _ _ _ h=>h) (Or.inl ⟨by rfl,fun W hW=>?h6⟩) hH ?_
     case h6=>dsimp only [prO6];go_simp
     simp only [Act.put,List.setIfInBounds_toArray,List.set_cons_zero,List.set_cons_succ]
     refine wpAnyH_take (i:=7) (oi:=prO7) (v := .agg c2) rfl (by kernel_rfl) (by kernel_rfl) (by kernel_rfl) (fun _ _ _ h=>h) (Or.inl ⟨by rfl,fun W hW=>?h7⟩) hH ?_
     case h7=>dsimp only [prO7];go_simp
     simp only [Act.put,List.setIfInBounds_toArray,List.set_cons_zero,List.set_cons_succ]
     refine wpAnyH_take (i:=8) (oi:=prO8) (v := .agg a2) rfl (by kernel_rfl) (by kernel_rfl) (by kernel_rfl) (fun _ _ _ h=>h) (Or.inl ⟨by rfl,fun W hW=>?h8⟩) hH ?_
     case h8=>dsimp only [prO8];go_simp
     simp only [Act.put,List.setIfInBounds_toArray,List.set_cons_zero,List.set_cons_succ]
     have hcs2:c2.size=24:=by rw [<- hc2];rfl
     have hca2:a2.size=5:=by rw [<- ha2];rfl
     refine wpAnyH_ready (rs:=[11]) (by kernel_rfl) (by simp) ?_
     refine AllReadyH.cons (o:=prO11) rfl (fun K hK=>?_) AllReadyH.nil
     dsimp only [prO11]
     rw [if_pos (show Region.wanted _ _=true from by rfl)]
     refine wp_store_mid PT13 (.tmp 11) (.tmp 39) rfl pA 0 c2 rfl rfl (by rw [hcs2];exact there_of hA rfl) (by rw [hcs2];kernel_rfl) (by rw [<- hc2];exact V13.one _) ?_
     have o1:Only [pA] W3 (W3.setCells pA 0 c2.toList):=only_setCells (by simp) _ _ _ _ (Only.refl _ _)
     have hb1:=hb_3.trans (o1.below (by simpa using hpA) hb_3.size)
     have k1:=block_whole (vs:=c2) hA (by rw [hcs2];rfl)
     have k2:=(o1.block _ (head_row hB).lt (by simpa using hAB.symm)).trans hB
     refine hK.out _ _ (HSR.out _ hb1) (fun hH=>?_)
     simp only [Act.put]
     refine wpAnyH_ready (rs:=[12]) (by kernel_rfl) (by simp) ?_
     refine AllReadyH.cons (o:=prO12) rfl (fun K hK=>?_) AllReadyH.nil
     dsimp only [prO12]
     rw [if_pos (show Region.wanted _ _=true from by rfl)]
     refine wp_store_mid AnsT (.tmp 12) (.tmp 40) rfl pB 0 a2 rfl rfl (by rw [hca2];exact there_of k2 rfl) (by rw [hca2];kernel_rfl) (by rw [<- ha2];exact an_one _ _ _ _ _ _ _) ?_
     have o2:Only [pB] (W3.setCells pA 0 c2.toList) ((W3.setCells pA 0 c2.toList).setCells pB 0 a2.toList):=only_setCells (by simp) _ _ _ _ (Only.refl _ _)
     have hb2:=hb1.trans (o2.below (by simpa using hpB) hb1.size)
     refine hK.out _ _ (HSR.out _ hb2) (fun _=>?_)
     simp only [Act.put]
     refine wpAnyH_done (by kernel_rfl) ?_ _
     have k3:=(o2.block _ (head_row k1).lt (by simpa using hAB)).trans k1
     have k4:=block_whole (vs:=a2) k2 (by rw [hca2];rfl)
     have x1:∀ j∈[pA],Bx W3 j:=fun j hj=>by
      rw [show j=pA by simpa using hj]
      exact ⟨_,_,hA,rfl,by decide⟩
     have x2':∀ j∈[pB], ∃ cs e,(W3.setCells pA 0 c2.toList).heap[j]? = some (.cells cs e (0,0))/\noUU cs.toList=true:=fun j hj=>by
      rw [show j=pB by simpa using hj]
      exact ⟨_,_,k2,rfl⟩
     have x3':∀ j∈[pB],Bn (W3.setCells pA 0 c2.toList) j:=fun j hj=>by
      rw [show j=pB by simpa using hj]
      exact ⟨_,_,_,k2,by decide⟩
     have s1:=hst.only o1 x1
     have s2:St13 _ _ _:=⟨s1.pol.onlyN o2 x3',s1.prs.onlyA o2 x2',s1.hi,s1.mi,s1.ev⟩
     have s3:=(hpv.only o1 x1).onlyA o2 x2'
     have HF:=Lib.hid (show Af13 wr (m.step o) a0 (.pointer (some ⟨pA,0,none⟩)) (.pointer (some ⟨pB,0,none⟩)) ((W3.setCells pA 0 c2.toList).setCells pB 0 a2.toList) from ⟨pA,pB,x2,F2,k2',d2,rfl,rfl,hb2,hpA,hpB,hAB,by rw [hc2];exact k3,by rw [ha2];exact k4,s2,s3⟩)
     clear hb2 k1 k2 k3 k4 s1 s2 s3 o1 o2 x1 x2' x3' hb1 hA hB hst hpv hH
     go_wp2_with fail
     go_meet
     exact HF.out
    case rest =>
     obtain ⟨pA,pB,x2,F2,n2,d2,rfl,rfl,hbW,hpA,hpB,hAB,g1,g2,hst,hpv⟩:=hcut
     have hn2:n2=a0.out.length:=by
      obtain ⟨F',c',e,_⟩:=hpv.mem
      injection e
     have hlt8:=(head_row HBX.out).lt
     have h8c:=(hbW.block _ hlt8).trans HBX.out
     obtain ⟨c2,hc2⟩:∃ c,x2.C=c:=⟨_,rfl⟩
     have hcs2:c2.size=24:=by rw [<- hc2];rfl
     have HRA:=Lib.hid (show wc.rangeAt pA 0 c2.toList from by rw [<- hc2];exact range_of g1)
     have HTH:=Lib.hid (show wc.there b8 0 c2.size from by rw [hcs2];exact there_of h8c rfl)
     have HI4:=Lib.hid (show (Tryz.prog.info? PT13).map (·.size)=some c2.size from by rw [hcs2];kernel_rfl)
     have HI5:=Lib.hid (show (Tryz.prog.info? PT13).map (·.size)=some c2.toList.length from by rw [Array.length_toList,hcs2];kernel_rfl)
     have HO4:=Lib.hid (show c2.all (·.oneCell')=true from by rw [<- hc2];exact V13.one _)
     obtain ⟨W1,hW1⟩:∃ W1,wc.setCells b8 0 c2.toList=W1:=⟨_,rfl⟩
     have o1:Only [b8] wc W1:=by rw [<- hW1];exact only_setCells (by simp) _ _ _ _ (Only.refl _ _)
     have k8:W1.heap[b8]? = some (.cells x2.C PT13 (0,0)):=by rw [<- hW1,hc2];exact block_whole h8c (by rw [hcs2];rfl)
     have hbx:∀ j∈[b8],Bx wc j:=fun j hj=>by
      rw [show j=b8 by simpa using hj]
      exact ⟨_,_,h8c,rfl,by decide⟩
     have s1:=hst.only o1 hbx
     have kB:=(o1.block _ (head_row g2).lt (by simp;omega)).trans g2
     have hgw:g < wc.heap.size:=Nat.lt_of_lt_of_le hg (Nat.le_trans HI.out.low.size hbW.size)
     obtain ⟨-,q0,-,-,-⟩:=HSR.out wc hbW
     have q0:=(World.cell?_of_block (w:=wc) (a:=⟨g,off+i * 4,none⟩) (o1.block g hgw (by simp;omega))).trans q0
     have HLW:=Lib.hid (HI.out.low.trans (hbW.mono HI.out.low.size))
     have HLW1:=Lib.hid (HLW.out.trans (o1.below (by simpa using hwb8) HLW.out.size))
     have HE1:=Lib.hid ((HI.out.err.below hbW HI.out.err.lt).only o1 (by simp;omega))
     have HN:=Lib.hid (show Lp w W1 b8 (m0.run (l.take (i+1))) from by
      rw [HNX.out]
      exact ⟨HLW1.out,HE1.out,x2,k8,s1⟩)
     clear hbW g1 g2 hst hpv h8c hc2 hcs2 o1 k8 hbx s1 kB hgw HST HSR HI HBX hi24 q0
     go_upto_region 7 with (first | (refine wpList_load_mid rfl PT13 (.tmp 11) rfl pA 0 rfl c2.toList _ HRA.out Tryz.underlying42 rfl HI5.out ?_) | (refine wpList_store_mid rfl PT13 (.tmp 8) (.tmp 41) rfl b8 0 c2 rfl rfl HTH.out HI4.out HO4.out ?_))
     try rw [hW1]
     clear hW1 HRA HTH HI4 HI5 HO4
     go_wp2_with fail
     go_roundg (na - i - 1)
     case measure=>omega
     case rel=>exact ⟨i+1,by omega,by go_num,HN⟩
   ·have hltI:¬ (i:Int) < (na:Int):=by omega
    have hin:i=na:=by omega
    have HOKF:=Lib.hid (HRUN.out i).1
    obtain ⟨m,hm⟩:∃ m,m0.run (l.take i)=m:=⟨_,rfl⟩
    rw [hm] at HI HOKF
    obtain ⟨x,hbx,hsx⟩:=HI.out.box
    have hlenP:m.prs.length<=10000000:=by have:=HOKF.out.lenCap;have:=HOKF.out.ps.capLe;omega
    have hlenK:m.ps.keys.length=m.prs.length:=HOKF.out.len.symm
    have KK:=keys13_walk HA.out hsx HOKF.out
    have l1:=load24 hbx
    obtain ⟨c,hc1⟩:∃ c,x.C=c:=⟨_,rfl⟩
    rw [hc1] at KK l1
    have R1:=Lib.hid l1
    have HC1:=Lib.hid hc1
    have KK:=Lib.hid KK
    have HLP:=Lib.hid HI.out
    have HBX:=Lib.hid hbx
    have HSX:=Lib.hid hsx
    clear l1 hc1 HI hbx hsx hm hin HRUN HI0 HOS HSM HOV HZ0 HOK0 HLW0 hlt
    go_wp2_with (refine wpList_load_mid rfl PT13 (.tmp 8) rfl b8 0 rfl c.toList _ R1.out.1 Tryz.underlying42 rfl R1.out.2 ?_)
    refine KK.out.mono ?_
    rintro e w3 ⟨vk,rfl,hb3,hkv⟩
    have HB3:=Lib.hid ((hb3.block _ (head_row HBX.out).lt).trans HBX.out)
    have HS3:=Lib.hid (HSX.out.below hb3)
    have HL3:=Lib.hid (HLP.out.low.trans (hb3.mono HLP.out.low.size))
    have HKV:=Lib.hid hkv
    obtain ⟨-,-,-,-,-,-,-,-,-,-,-,-,-,-,-,-,-,-,-,-,y20,-⟩:=box_cells HB3.out
    obtain ⟨F,cp,he,hcp,-,hat⟩:=HS3.out.prs.at_
    injection he with hF hn hcc
    have HAT:=Lib.hid hat
    obtain ⟨np,hnp⟩:∃ np,m.prs.length=np:=⟨_,rfl⟩
    rw [hnp] at hn hlenP hlenK
    rw [hn] at y20
    have HNP:=Lib.hid hnp
    clear hb3 hkv KK R1 HBX HSX HLP hat hn hcp hcc hnp
    go_upto_region 12 with fail
    go_loopg [14] np (fun gg s14 wr=>∃ i:Nat,i+gg=np/\s14 = .int .i64 (i:Nat)/\wr=w3)
    case atStart=>exact ⟨0,by omega,rfl,rfl⟩
    case round =>
     obtain ⟨i2,hi2,rfl,rfl⟩:=hrel
     by_cases hlt2:i2 < np
     ·have hltI2:(i2:Int) < (np:Int):=by omega
      have hil2:i2 < m.prs.length:=by rw [HNP.out];exact hlt2
      obtain ⟨g,off,hFe,-,q0,-⟩:=HAT.out i2 hil2
      rw [hF,hFe] at y20
      have hin2:(m.prs[i2]).1∈m.ps.keys:=(HOKF.out.same _).1 (List.mem_map_of_mem (List.getElem_mem hil2))
      have KH:=Lib.hid (rhas_walk HKV.out (by omega) (m.prs[i2]).1)
      rw [decide_eq_true hin2] at KH
      generalize (m.prs[i2]).1=kk at q0 KH hin2
      clear hin2 hil2
      go_wp2_with fail
      refine KH.out.mono ?_
      rintro e w4 ⟨rfl,rfl⟩
      clear KH q0
      go_wp2_with fail
      go_roundg (np - i2 - 1)
      case measure=>omega
      case rel=>exact ⟨i2+1,by omega,by go_num,rfl⟩
     ·have hltI2:¬ (i2:Int) < (np:Int):=by omega
      obtain ⟨Fk,ck,rfl,-⟩:=HKV.out.mem
      rw [hlenK] at HKV ⊢
      have hap:=rapart_walk (KVV.one HKV.out 25) (by simp) (by
       simp only [List.flatten_cons,List.flatten_nil,List.append_nil]
       omega)
      rw [show decide ([m.ps.keys].flatten.Nodup)=true from decide_eq_true (by simpa using HOKF.out.ps.nd)] at hap
      have KA:=Lib.hid hap
      have hlw:=low_one wr (.cells #[.slice Fk np ck] 25)
      have HB5:=Lib.hid ((hlw.block _ (head_row HB3.out).lt).trans HB3.out)
      have HS5:=Lib.hid (HS3.out.below hlw)
      have HL5:=Lib.hid (HL3.out.trans (hlw.mono HL3.out.size))
      have hcapI:(np:Int)<=(m.ps.cap:Nat):=by have:=HOKF.out.lenCap;have:=HNP.out;omega
      clear hap hlw
      go_wp2_with fail
      refine KA.out.mono ?_
      rintro e w6 ⟨rfl,hb6⟩
      have HB6:=Lib.hid ((hb6.block _ (head_row HB5.out).lt).trans HB5.out)
      have HS6:=Lib.hid (HS5.out.below hb6)
      have HL6:=Lib.hid (HL5.out.trans (hb6.mono HL5.out.size))
      have KC:=capacity13_walk HA.out HS6.out HOKF.out
      have l6:=load24 HB6.out
      rw [HC1.out] at KC l6
      have R6:=Lib.hid l6
      have KC:=Lib.hid KC
      clear hb6 l6 KA HB5 HS5 HL5 y20
      go_wp2_with (refine wpList_load_mid_g (by rfl) PT13 (.tmp 8) rfl b8 0 rfl c.toList _ R6.out.1 Tryz.underlying42 rfl R6.out.2 ?_)
      refine KC.out.mono ?_
      rintro e w7 ⟨rfl,hb7⟩
      have HL7:=Lib.hid (HL6.out.trans (hb7.mono HL6.out.size))
      clear hb7 KC R6 HB6 HS6 HL6
      go_wp2_with fail
      go_ret
      exact ⟨by simp,HL7.out⟩
end
end Go.Proofs.YtcpggonengkgiaaGreatDoor
