/- Words and walks: LiC LiC2 LiC3. -/
import Derived.Test.YtcpggonengkgiaaGreatDoorG22
import Derived.Test.YtcpggonengkgiaaGreatDoorG3
import Derived.Deep.RegionLaw
namespace Go.Proofs.YtcpggonengkgiaaGreatDoor
open Go Go.RowKit Go.Deep
set_option maxRecDepth 8000
section
variable {w:World}
set_option maxHeartbeats 1000000 in
theorem other12_walk {kb k:Nat} (hk:w.cell? ⟨kb,0,none⟩=some (.int .u64 (k:Nat))) (hkb:kb < w.heap.size) (x:It) :
  Calls Tryz.prog 280 #[.agg #[.int .u64 (x.key:Nat),.int .i64 (x.f:Nat)],.pointer (some ⟨kb,0,none⟩)] w fun e w'=>e = .returned (.tuple #[.agg #[.int .u64 (x.key:Nat),.int .i64 (x.f:Nat)],.bool (!decide (x.key=k))])/\Below w.heap.size w w':=by
 obtain ⟨kx,fx⟩:=x
 dsimp only
 have hne:kb≠w.heap.size:=by omega
 have hne2:w.heap.size≠kb:=by omega
 have hne3:kb≠w.heap.size+1:=by omega
 have HB:=Lib.hid (low_two w)
 by_cases he:kx=k
 ·subst he
  rw [decide_eq_true rfl]
  have hne4:((kx:Int) != (kx:Int))=false:=by simp
  go_enter Tryz.func280,Tryz.ntmps280
  go_wp2_with fail
  go_region
  go_wp2
  exact bodyPost_ret (v := .tuple #[.agg #[.int .u64 (kx:Nat),.int .i64 (fx:Nat)],.bool false]) (by simp [results,Tryz.results280,go_sem]) rfl ⟨rfl,below_drewn (HB.out _ _) 1⟩
 ·rw [decide_eq_false he]
  have hne4:((kx:Int) != (k:Int))=true:=by rw [bne_iff_ne];omega
  clear he
  go_enter Tryz.func280,Tryz.ntmps280
  go_wp2_with fail
  go_region
  go_wp2
  exact bodyPost_ret (v := .tuple #[.agg #[.int .u64 (kx:Nat),.int .i64 (fx:Nat)],.bool true]) (by simp [results,Tryz.results280,go_sem]) rfl ⟨rfl,below_drewn (HB.out _ _) 1⟩
theorem is12_walk {kb k:Nat} (hk:w.cell? ⟨kb,0,none⟩=some (.int .u64 (k:Nat))) (hkb:kb < w.heap.size) (x:It) :
  Calls Tryz.prog 275 #[.agg #[.int .u64 (x.key:Nat),.int .i64 (x.f:Nat)],.pointer (some ⟨kb,0,none⟩)] w fun e w'=>e = .returned (.bool (decide (x.key=k)))/\Below w.heap.size w w':=by
 obtain ⟨kx,fx⟩:=x
 dsimp only
 have hne:kb≠w.heap.size:=by omega
 have hne2:w.heap.size≠kb:=by omega
 have HB:=Lib.hid (low_one w)
 by_cases he:kx=k
 ·subst he
  rw [decide_eq_true rfl]
  go_enter Tryz.func275,Tryz.ntmps275
  go_wp2
  go_ret
  exact ⟨by simp,HB.out _⟩
 ·rw [decide_eq_false he]
  have hne4:((kx:Int) == (k:Int))=false:=by rw [beq_eq_false_iff_ne];omega
  clear he
  go_enter Tryz.func275,Tryz.ntmps275
  go_wp2
  go_ret
  exact ⟨by first | rfl | simp [hne4],HB.out _⟩
set_option maxHeartbeats 1000000 in
theorem forget1_walk (x:It) :
  Calls Tryz.prog 279 #[.agg #[.int .u64 (x.key:Nat),.int .i64 (x.f:Nat)]] w fun e w'=>e = .returned (.tuple #[.agg #[.int .u64 (x.key:Nat),.int .i64 (x.f:Nat)],.bool false])/\Below w.heap.size w w':=by
 obtain ⟨kx,fx⟩:=x
 dsimp only
 have HB:=Lib.hid (low_two w)
 go_enter Tryz.func279,Tryz.ntmps279
 go_wp2
 exact bodyPost_ret (v := .tuple #[.agg #[.int .u64 (kx:Nat),.int .i64 (fx:Nat)],.bool false]) (by simp [results,Tryz.results279,go_sem]) rfl ⟨rfl,HB.out _ _⟩
def MapHas (w:World) (b:Nat) (L:List Nat):Prop:=∃ (n:Nat) (D:DataW Unit),w.ownsMap Tryz.prog 56 (plainElem Tryz.prog 4) b n D/\∀ k:Nat,k < 18446744073709551616->D.atKey (.int .u64 (k:Nat)) (.lit (.bool false)) = .lit (.bool (decide (k∈L)))
theorem MapHas.keep {w w':World} {b:Nat} {L:List Nat} (h:MapHas w b L) (e:w'.heap[b]? = w.heap[b]?):MapHas w' b L:=by
 obtain ⟨n,D,⟨es,clock,h1,h2⟩,h3⟩:=h
 exact ⟨n,D,⟨es,clock,e.trans h1,h2⟩,h3⟩
theorem MapHas.lt {w:World} {b:Nat} {L:List Nat} (h:MapHas w b L):b < w.heap.size:=by
 obtain ⟨n,D,h1,_⟩:=h
 exact h1.lt
theorem Seen.has {w0 w:World} {b:Nat} {L:List Nat} (h:Seen w0 w b L):MapHas w b L:=by
 obtain ⟨D,h1,_,h3⟩:=h.own
 exact ⟨_,D,h1,h3⟩
theorem MapHas.look {w:World} {b:Nat} {L:List Nat} (h:MapHas w b L) {k:Nat} (hk:k < 18446744073709551616) :
  (Instr.lookup 301 (.map (some b)) (.int .u64 (k:Nat)) false).run Tryz.prog w = .ok (.bool (decide (k∈L))) w:=by
 obtain ⟨n,D,h1,h3⟩:=h
 obtain ⟨v,ps,hrun,hv⟩:=h1.lookup keyed64 Tryz.underlying301 (zeroB w) (plainElem_bool Tryz.underlying4 false) (key64 hk)
 rw [h3 k hk] at hv
 rw [hrun]
 unfold plainElem at hv
 rw [Tryz.underlying4] at hv
 cases v <;> simp at hv
 rw [hv.1]
set_option maxHeartbeats 1000000 in
theorem evict1_walk {mp mb:Nat} {L:List Nat} (hm:w.cell? ⟨mp,0,none⟩=some (.map (some mb))) (hmp:mp < w.heap.size) (hL:MapHas w mb L) (x:It) (hx:x.key < 18446744073709551616) :
  Calls Tryz.prog 277 #[.agg #[.int .u64 (x.key:Nat),.int .i64 (x.f:Nat)],.pointer (some ⟨mp,0,none⟩)] w fun e w'=>e = .returned (.tuple #[.agg #[.int .u64 ((if x.key∈L then (⟨x.key,0⟩:It) else x).key:Nat),.int .i64 ((if x.key∈L then (⟨x.key,0⟩:It) else x).f:Nat)],.bool true])/\Below w.heap.size w w':=by
 obtain ⟨kx,fx⟩:=x
 dsimp only at hx ⊢
 have hne:mp≠w.heap.size:=by omega
 have hne2:w.heap.size≠mp:=by omega
 have hne3:mp≠w.heap.size+1:=by omega
 have HB:=Lib.hid (low_two w)
 have hmb:=hL.lt
 have hlk:=(hL.keep (w':=(w.alloc (.cells #[.int .u64 (kx:Nat),.int .i64 (fx:Nat)] PTI12)).alloc (.cells #[.int .u64 0,.int .i64 0] PTI12)) ((HB.out _ _).block mb hmb)).look hx
 clear hL hmb
 by_cases he:kx∈L
 ·rw [decide_eq_true he] at hlk
  rw [if_pos he]
  clear he
  go_enter Tryz.func277,Tryz.ntmps277
  go_wp2
  exact bodyPost_ret (v := .tuple #[.agg #[.int .u64 (kx:Nat),.int .i64 0],.bool true]) (by simp [results,Tryz.results277,go_sem]) rfl ⟨rfl,HB.out _ _⟩
 ·rw [decide_eq_false he] at hlk
  rw [if_neg he]
  clear he
  go_enter Tryz.func277,Tryz.ntmps277
  go_wp2
  exact bodyPost_ret (v := .tuple #[.agg #[.int .u64 (kx:Nat),.int .i64 (fx:Nat)],.bool true]) (by simp [results,Tryz.results277,go_sem]) rfl ⟨rfl,HB.out _ _⟩
end
set_option maxRecDepth 8000
theorem own_other {w w':World} {S:List Nat} {B size n:Nat} {e:TypeId} {v:Value} {xs:List Value} (h:w.ownsRow B e size v n xs) (ho:Only S w w') (hS:∀ g∈S, ∀ cs,w.heap[g]?≠some (.cells cs e (0,0))):w'.ownsRow B e size v n xs:=by
 refine ⟨h.1,h.2.imp id ?_⟩
 rintro ⟨g,cap,cur,e1,e2,e3,e4⟩
 exact ⟨g,cap,cur,e1,e2,(ho.block g (Array.getElem?_eq_some_iff.1 e3).1 (fun hm=>hS g hm cur e3)).trans e3,e4⟩
abbrev KT:TypeId:=25
abbrev FT12:TypeId:=303
structure CB (w:World) (B gc:Nat) (cs:List Nat):Prop where
 ge:B<=gc
 row:∃ v,w.heap[gc]? = some (.cells #[v] KT (0,0))/\w.ownsRow B 56 1 v cs.length (u64L cs)
def KeepB (gc:Nat) (w w':World):Prop:=∀ (g:Nat) (cs:Array Value) (t:TypeId),w.heap[g]? = some (.cells cs t (0,0))->t≠56->g≠gc->w'.heap[g]? = some (.cells cs t (0,0))
section
variable {w:World}
set_option maxHeartbeats 2000000 in
theorem cool1_walk {B gc:Nat} {cs:List Nat} (h:CB w B gc cs) (hB:B<=w.heap.size) (hl:cs.length<=10000000) (x:It) :
  Calls Tryz.prog 281 #[.agg #[.int .u64 (x.key:Nat),.int .i64 (x.f:Nat)],.pointer (some ⟨gc,0,none⟩)] w fun e w'=>e = .returned (.tuple #[.agg #[.int .u64 (x.key:Nat),.int .i64 1],.bool true])/\CB w' B gc (cs ++ [x.key])/\Below B w w'/\KeepB gc w w':=by
 obtain ⟨kx,fx⟩:=x
 dsimp only
 obtain ⟨v,hbox,hown⟩:=h.row
 have hge:=h.ge
 have hro:=head_row hbox
 have hglt:=hro.lt
 have hc0:=hro.cell (i:=0) (by simp)
 have hne:gc≠w.heap.size:=by omega
 have hne2:w.heap.size≠gc:=by omega
 have hne3:gc≠w.heap.size+1:=by omega
 have hne5:gc≠w.heap.size+1+1:=by omega
 have hfr:=hro.frozen 0
 obtain ⟨F,c,rfl,-⟩:∃ F c,v = .slice F cs.length c/\True:=by
  obtain ⟨F,c,e,_⟩:=(KV.of_own hown).mem
  exact ⟨F,c,e,trivial⟩
 have HOWN:=Lib.hid hown
 obtain ⟨n,hn⟩:∃ n,cs.length=n:=⟨_,rfl⟩
 have HN:=Lib.hid hn
 rw [hn] at HOWN hc0 hbox
 have hW3:∀ g,g < w.heap.size->(((w.alloc (.cells #[.int .u64 (kx:Nat),.int .i64 (fx:Nat)] PTI12)).alloc (.cells #[.int .u64 0,.int .i64 0] PTI12)).alloc (.cells #[.int .u64 (kx:Nat)] 56)).heap[g]? = w.heap[g]? := fun g hg=>((low_two w _ _).alloc (by simp;omega) (.cells #[.int .u64 (kx:Nat)] 56)).block g hg
 have hbi:(((w.alloc (.cells #[.int .u64 (kx:Nat),.int .i64 (fx:Nat)] PTI12)).alloc (.cells #[.int .u64 0,.int .i64 0] PTI12)).alloc (.cells #[.int .u64 (kx:Nat)] 56)).heap[w.heap.size]? = some (.cells #[.int .u64 (kx:Nat),.int .i64 (fx:Nat)] PTI12 (0,0)):=by
  rw [Below.heap_alloc _ _ _ (by simp;omega),Below.heap_alloc _ _ _ (by simp)]
  exact heap_alloc_new w _
 have hbr:(((w.alloc (.cells #[.int .u64 (kx:Nat),.int .i64 (fx:Nat)] PTI12)).alloc (.cells #[.int .u64 0,.int .i64 0] PTI12)).alloc (.cells #[.int .u64 (kx:Nat)] 56)).heap[w.heap.size+1]? = some (.cells #[.int .u64 0,.int .i64 0] PTI12 (0,0)):=by
  rw [Below.heap_alloc _ _ _ (by simp)]
  have:=heap_alloc_new (w.alloc (.cells #[.int .u64 (kx:Nat),.int .i64 (fx:Nat)] PTI12)) (.cells #[.int .u64 0,.int .i64 0] PTI12)
  simpa using this
 have HOW:Hid (KO B (((w.alloc (.cells #[.int .u64 (kx:Nat),.int .i64 (fx:Nat)] PTI12)).alloc (.cells #[.int .u64 0,.int .i64 0] PTI12)).alloc (.cells #[.int .u64 (kx:Nat)] 56)) (((w.alloc (.cells #[.int .u64 (kx:Nat),.int .i64 (fx:Nat)] PTI12)).alloc (.cells #[.int .u64 0,.int .i64 0] PTI12)).alloc (.cells #[.int .u64 (kx:Nat)] 56)) (.slice F n c) cs):=Lib.hid ⟨Below.refl _ _,by rw [hn];exact ((HOWN.out.alloc _).alloc _).alloc _⟩
 have HSRC:=Lib.hid (KV.one ((w.alloc (.cells #[.int .u64 (kx:Nat),.int .i64 (fx:Nat)] PTI12)).alloc (.cells #[.int .u64 0,.int .i64 0] PTI12)) kx)
 have HL3:Hid (Below B w (((w.alloc (.cells #[.int .u64 (kx:Nat),.int .i64 (fx:Nat)] PTI12)).alloc (.cells #[.int .u64 0,.int .i64 0] PTI12)).alloc (.cells #[.int .u64 (kx:Nat)] 56))):=Lib.hid (((low_two w _ _).alloc (by simp;omega) _).mono hB)
 have hszA:=HL3.out.size
 have hsz2:B<=(((w.alloc (.cells #[.int .u64 (kx:Nat),.int .i64 (fx:Nat)] PTI12)).alloc (.cells #[.int .u64 0,.int .i64 0] PTI12)).alloc (.cells #[.int .u64 (kx:Nat)] 56)).heap.size:=by simp;omega
 have HW3:=Lib.hid hW3
 have HBI:=Lib.hid hbi
 have HBR:=Lib.hid hbr
 have HBX:=Lib.hid hbox
 clear hW3 hbi hbr hbox hown h hn hro HOWN
 go_enter Tryz.func281,Tryz.ntmps281
 go_wp2_with (at_builtin;refine wpList_append_kv rfl (.tmp 5) (.tmp 8) rfl B (by kernel_rfl) (by kernel_rfl) _ cs rfl HOW.out _ [kx] rfl (by first | exact HSRC.out | (have h:=HSRC.out;simp only [World.size_alloc] at h;exact h)) (by have:=HN.out;simp;omega) hsz2 ?_)
 intro v5 w5 hown5 _ hkt5
 obtain ⟨F5,n5,d5,rfl⟩:=hown5.kv.form
 have hbi5:=hkt5 _ _ _ _ HBI.out (by decide)
 have hbr5:=hkt5 _ _ _ _ HBR.out (by decide)
 have hbx5:=hkt5 _ _ _ _ ((HW3.out gc hglt).trans HBX.out) (by decide)
 obtain ⟨⟨i0,i1⟩,if0,if1⟩:=c2_at hbi5
 obtain ⟨⟨r0,r1⟩,rf0,rf1⟩:=c2_at hbr5
 have hbb5:=(head_row hbi5).lt
 have hrr5:=(head_row hbr5).lt
 have hro5:=head_row hbx5
 have hgg5:=hro5.lt
 have hg0:=hro5.cell (i:=0) (by simp)
 have hgf:=hro5.frozen 0
 have HO:Hid (Only [gc,w.heap.size+1] w5 (((w5.setCell ⟨gc,0,none⟩ (.slice F5 n5 d5)).setCell ⟨w.heap.size+1,0,none⟩ (.int .u64 (kx:Nat))).setCell ⟨w.heap.size+1,1,none⟩ (.int .i64 1))):=Lib.hid ((((Only.refl _ _).setCell (by simp) _).setCell (by simp) _).setCell (by simp) _)
 have HF:Hid (CB (((w5.setCell ⟨gc,0,none⟩ (.slice F5 n5 d5)).setCell ⟨w.heap.size+1,0,none⟩ (.int .u64 (kx:Nat))).setCell ⟨w.heap.size+1,1,none⟩ (.int .i64 1)) B gc (cs ++ [kx])/\Below B w (((w5.setCell ⟨gc,0,none⟩ (.slice F5 n5 d5)).setCell ⟨w.heap.size+1,0,none⟩ (.int .u64 (kx:Nat))).setCell ⟨w.heap.size+1,1,none⟩ (.int .i64 1))/\KeepB gc w (((w5.setCell ⟨gc,0,none⟩ (.slice F5 n5 d5)).setCell ⟨w.heap.size+1,0,none⟩ (.int .u64 (kx:Nat))).setCell ⟨w.heap.size+1,1,none⟩ (.int .i64 1))):=Lib.hid ⟨⟨hge,.slice F5 n5 d5,by
   have ho2:Only [w.heap.size+1] (w5.setCell ⟨gc,0,none⟩ (.slice F5 n5 d5)) (((w5.setCell ⟨gc,0,none⟩ (.slice F5 n5 d5)).setCell ⟨w.heap.size+1,0,none⟩ (.int .u64 (kx:Nat))).setCell ⟨w.heap.size+1,1,none⟩ (.int .i64 1)):=((Only.refl _ _).setCell (by simp) _).setCell (by simp) _
   exact (ho2.block gc (by simpa using hgg5) (by simp;omega)).trans (set_one hbx5),own_other hown5.own HO.out (fun g hg cs' he=>by
    simp only [List.mem_cons,List.not_mem_nil,or_false] at hg
    rcases hg with rfl | rfl
    ·rw [hbx5] at he
     injection he with he
     injection he with _ he
     exact absurd he (by decide)
    ·rw [hbr5] at he
     injection he with he
     injection he with _ he
     exact absurd he (by decide))⟩,(HL3.out.trans hown5.low).trans (HO.out.below (by simp;omega) (Nat.le_trans hsz2 hown5.low.size)),fun g cs' t hg ht hgc=>by
   have hlt:=(Array.getElem?_eq_some_iff.1 hg).1
   have h5:=hkt5 _ _ _ _ ((HW3.out g hlt).trans hg) ht
   exact (HO.out.block g (head_row h5).lt (by simp;omega)).trans h5⟩
 clear hown5 hkt5 HOW HSRC HL3 HW3 HBI HBR HBX hro5 hbi5 hbr5 hbx5
 go_wp2
 exact bodyPost_ret (v := .tuple #[.agg #[.int .u64 (kx:Nat),.int .i64 1],.bool true]) (by simp [results,Tryz.results281,go_sem,r0,r1]) rfl ⟨rfl,HF.out⟩
structure Bh (w:World) (n:Nat) (kind seen most:Nat) (fv:Value):Prop where
 k:w.heap[n]? = some (.cells #[.int .i64 (kind:Nat)] 3 (0,0))
 m:w.heap[n+1]? = some (.cells #[.int .i64 (most:Nat)] 3 (0,0))
 f:w.heap[n+1+1]? = some (.cells #[fv] FT12 (0,0))
 s:w.heap[n+1+1+1]? = some (.cells #[.int .i64 (seen:Nat)] 3 (0,0))
abbrev capsB (n:Nat):Array Value:=#[.pointer (some ⟨n,0,none⟩),.pointer (some ⟨n+1+1+1,0,none⟩),.pointer (some ⟨n+1,0,none⟩),.pointer (some ⟨n+1+1,0,none⟩)]
theorem Bh.below {w w':World} {n kind seen most:Nat} {fv:Value} (h:Bh w n kind seen most fv) (hb:Below w.heap.size w w'):Bh w' n kind seen most fv :=
 ⟨(hb.block _ (head_row h.k).lt).trans h.k,(hb.block _ (head_row h.m).lt).trans h.m,(hb.block _ (head_row h.f).lt).trans h.f,(hb.block _ (head_row h.s).lt).trans h.s⟩
theorem behind_walk (kind most fn:Nat) (caps:Array Value):Calls Tryz.prog 278 #[.int .i64 (kind:Nat),.int .i64 (most:Nat),.func (.func fn) #[] caps] w fun e w'=>e = .returned (.func (.func 301) #[] (capsB w.heap.size))/\Below w.heap.size w w'/\w.heap.size+1+1+1 < w'.heap.size/\Bh w' w.heap.size kind 0 most (.func (.func fn) #[] caps):=by
 have HB:Hid (Below w.heap.size w ((((w.alloc (.cells #[.int .i64 (kind:Nat)] 3)).alloc (.cells #[.int .i64 (most:Nat)] 3)).alloc (.cells #[.func (.func fn) #[] caps] FT12)).alloc (.cells #[.int .i64 0] 3))):=Lib.hid (((low_two w _ _).alloc (by simp <;> omega) _).alloc (by simp <;> omega) _)
 have HH:Hid (Bh ((((w.alloc (.cells #[.int .i64 (kind:Nat)] 3)).alloc (.cells #[.int .i64 (most:Nat)] 3)).alloc (.cells #[.func (.func fn) #[] caps] FT12)).alloc (.cells #[.int .i64 0] 3)) w.heap.size kind 0 most (.func (.func fn) #[] caps)):=Lib.hid ⟨by
   rw [Below.heap_alloc _ _ _ (by simp <;> omega),Below.heap_alloc _ _ _ (by simp <;> omega),Below.heap_alloc _ _ _ (by simp)]
   exact heap_alloc_new w _,by
   rw [Below.heap_alloc _ _ _ (by simp <;> omega),Below.heap_alloc _ _ _ (by simp)]
   have:=heap_alloc_new (w.alloc (.cells #[.int .i64 (kind:Nat)] 3)) (.cells #[.int .i64 (most:Nat)] 3)
   simpa using this,by
   rw [Below.heap_alloc _ _ _ (by simp)]
   have:=heap_alloc_new ((w.alloc (.cells #[.int .i64 (kind:Nat)] 3)).alloc (.cells #[.int .i64 (most:Nat)] 3)) (.cells #[.func (.func fn) #[] caps] FT12)
   simpa using this,by
   have:=heap_alloc_new (((w.alloc (.cells #[.int .i64 (kind:Nat)] 3)).alloc (.cells #[.int .i64 (most:Nat)] 3)).alloc (.cells #[.func (.func fn) #[] caps] FT12)) (.cells #[.int .i64 0] 3)
   simpa using this⟩
 go_enter Tryz.func278,Tryz.ntmps278
 go_wp2
 go_ret
 exact ⟨rfl,HB.out,by simp,HH.out⟩
end
set_option maxRecDepth 8000
section
variable {w:World} {n kind seen most:Nat} {fv:Value}
set_option maxHeartbeats 2000000 in
theorem behind1_other (h:Bh w n kind seen most fv) (x:It) (hx:x.f≠kind):Calls Tryz.prog 301 #[.agg #[.int .u64 (x.key:Nat),.int .i64 (x.f:Nat)],.pointer (some ⟨n,0,none⟩),.pointer (some ⟨n+1+1+1,0,none⟩),.pointer (some ⟨n+1,0,none⟩),.pointer (some ⟨n+1+1,0,none⟩)] w fun e w'=>e = .returned (.tuple #[.agg #[.int .u64 (x.key:Nat),.int .i64 (x.f:Nat)],.bool true])/\Below w.heap.size w w':=by
 obtain ⟨kx,fx⟩:=x
 dsimp only at hx ⊢
 have hlt:=(head_row h.s).lt
 have hk:=(head_row h.k).cell (i:=0) (by simp)
 have hm:=(head_row h.m).cell (i:=0) (by simp)
 have hf:=(head_row h.f).cell (i:=0) (by simp)
 have hs0:=(head_row h.s).cell (i:=0) (by simp)
 have hsf:=(head_row h.s).frozen 0
 have hn1:n≠w.heap.size:=by omega
 have hn2:n≠w.heap.size+1:=by omega
 have hn3:n+1≠w.heap.size:=by omega
 have hn4:n+1≠w.heap.size+1:=by omega
 have hn5:n+1+1≠w.heap.size:=by omega
 have hn6:n+1+1≠w.heap.size+1:=by omega
 have hn7:n+1+1+1≠w.heap.size:=by omega
 have hn8:n+1+1+1≠w.heap.size+1:=by omega
 have hn9:w.heap.size≠n+1+1+1:=by omega
 have hn10:w.heap.size+1≠n+1+1+1:=by omega
 have hl1:n < w.heap.size:=by omega
 have hl2:n+1 < w.heap.size:=by omega
 have hl3:n+1+1 < w.heap.size:=by omega
 have hxI:((fx:Int) != (kind:Int))=true:=by rw [bne_iff_ne];omega
 have HB:=Lib.hid (low_two w)
 clear h hx
 go_enter Tryz.func301,Tryz.ntmps301
 go_wp2
 exact bodyPost_ret (v := .tuple #[.agg #[.int .u64 (kx:Nat),.int .i64 (fx:Nat)],.bool true]) (by simp [results,Tryz.results301,go_sem]) rfl ⟨rfl,HB.out _ _⟩
set_option maxHeartbeats 2000000 in
theorem behind1_few (h:Bh w n kind seen most fv) (x:It) (hx:x.f=kind) (hs:seen+1<=most) (hb:most<=100000000):Calls Tryz.prog 301 #[.agg #[.int .u64 (x.key:Nat),.int .i64 (x.f:Nat)],.pointer (some ⟨n,0,none⟩),.pointer (some ⟨n+1+1+1,0,none⟩),.pointer (some ⟨n+1,0,none⟩),.pointer (some ⟨n+1+1,0,none⟩)] w fun e w'=>e = .returned (.tuple #[.agg #[.int .u64 (x.key:Nat),.int .i64 (x.f:Nat)],.bool true])/\Only [n+1+1+1] w w'/\w'.heap[n+1+1+1]? = some (.cells #[.int .i64 ((seen+1:Nat):Int)] 3 (0,0)):=by
 obtain ⟨kx,fx⟩:=x
 dsimp only at hx ⊢
 have hlt:=(head_row h.s).lt
 have hk:=(head_row h.k).cell (i:=0) (by simp)
 have hm:=(head_row h.m).cell (i:=0) (by simp)
 have hf:=(head_row h.f).cell (i:=0) (by simp)
 have hs0:=(head_row h.s).cell (i:=0) (by simp)
 have hsf:=(head_row h.s).frozen 0
 have hn1:n≠w.heap.size:=by omega
 have hn2:n≠w.heap.size+1:=by omega
 have hn3:n+1≠w.heap.size:=by omega
 have hn4:n+1≠w.heap.size+1:=by omega
 have hn5:n+1+1≠w.heap.size:=by omega
 have hn6:n+1+1≠w.heap.size+1:=by omega
 have hn7:n+1+1+1≠w.heap.size:=by omega
 have hn8:n+1+1+1≠w.heap.size+1:=by omega
 have hn9:w.heap.size≠n+1+1+1:=by omega
 have hn10:w.heap.size+1≠n+1+1+1:=by omega
 have hl1:n < w.heap.size:=by omega
 have hl2:n+1 < w.heap.size:=by omega
 have hl3:n+1+1 < w.heap.size:=by omega
 subst hx
 have hx0:((fx:Int) != (fx:Int))=false:=by simp
 have hsI:(seen:Int)+1<=(most:Int):=by omega
 have hbI:(most:Int)<=100000000:=by omega
 have hst:Hid ((w.setCell ⟨n+1+1+1,0,none⟩ (.int .i64 ((seen:Int)+1))).heap[n+1+1+1]? = some (.cells #[.int .i64 ((seen+1:Nat):Int)] 3 (0,0))):=Lib.hid (by
  have e:((seen:Int)+1)=((seen+1:Nat):Int):=by omega
  rw [e]
  exact set_one h.s)
 have HO:Hid (∀ o1 o2,Only [n+1+1+1] w (((w.setCell ⟨n+1+1+1,0,none⟩ (.int .i64 ((seen:Int)+1))).alloc o1).alloc o2)):=Lib.hid (fun o1 o2=>(((Only.refl _ _).setCell (by simp) _).alloc _).alloc _)
 clear h
 go_enter Tryz.func301,Tryz.ntmps301
 go_wp2
 exact bodyPost_ret (v := .tuple #[.agg #[.int .u64 (kx:Nat),.int .i64 (fx:Nat)],.bool true]) (by simp [results,Tryz.results301,go_sem]) rfl ⟨rfl,HO.out _ _,by
  rw [Below.heap_alloc _ _ _ (by simp;omega),Below.heap_alloc _ _ _ (by simp;omega)]
  exact hst.out⟩
set_option maxHeartbeats 2000000 in
theorem behind1_more {fn:Nat} {caps:Array Value} {y:It} {b:Bool} {R:World->Prop} (h:Bh w n kind seen most (.func (.func fn) #[] caps)) (x:It) (hx:x.f=kind) (hs:most < seen+1) (hb:seen<=100000000)
  (ent:∀ (args:Array Value) (W:World),(callFunc fn args).run Tryz.prog W = .ok (.enter fn args) W)
  (hcall:∀ W,Only [n+1+1+1] w W->W.heap[n+1+1+1]? = some (.cells #[.int .i64 ((seen+1:Nat):Int)] 3 (0,0))->Calls Tryz.prog fn (#[.agg #[.int .u64 (x.key:Nat),.int .i64 (x.f:Nat)]] ++ caps) W fun e W'=>e = .returned (.tuple #[.agg #[.int .u64 (y.key:Nat),.int .i64 (y.f:Nat)],.bool b])/\R W'/\KeepT PTI12 W W')
  (hR:∀ W W',R W->Below w.heap.size W W'->Kt PTI12 W W'->R W'):Calls Tryz.prog 301 #[.agg #[.int .u64 (x.key:Nat),.int .i64 (x.f:Nat)],.pointer (some ⟨n,0,none⟩),.pointer (some ⟨n+1+1+1,0,none⟩),.pointer (some ⟨n+1,0,none⟩),.pointer (some ⟨n+1+1,0,none⟩)] w fun e w'=>e = .returned (.tuple #[.agg #[.int .u64 (y.key:Nat),.int .i64 (y.f:Nat)],.bool b])/\R w'/\KeepT PTI12 w w':=by
 obtain ⟨ky,fy⟩:=y
 dsimp only at hcall ⊢
 obtain ⟨kx,fx⟩:=x
 dsimp only at hx ⊢
 have hlt:=(head_row h.s).lt
 have hk:=(head_row h.k).cell (i:=0) (by simp)
 have hm:=(head_row h.m).cell (i:=0) (by simp)
 have hf:=(head_row h.f).cell (i:=0) (by simp)
 have hs0:=(head_row h.s).cell (i:=0) (by simp)
 have hsf:=(head_row h.s).frozen 0
 have hn1:n≠w.heap.size:=by omega
 have hn2:n≠w.heap.size+1:=by omega
 have hn3:n+1≠w.heap.size:=by omega
 have hn4:n+1≠w.heap.size+1:=by omega
 have hn5:n+1+1≠w.heap.size:=by omega
 have hn6:n+1+1≠w.heap.size+1:=by omega
 have hn7:n+1+1+1≠w.heap.size:=by omega
 have hn8:n+1+1+1≠w.heap.size+1:=by omega
 have hn9:w.heap.size≠n+1+1+1:=by omega
 have hn10:w.heap.size+1≠n+1+1+1:=by omega
 have hl1:n < w.heap.size:=by omega
 have hl2:n+1 < w.heap.size:=by omega
 have hl3:n+1+1 < w.heap.size:=by omega
 subst hx
 have hx0:((fx:Int) != (fx:Int))=false:=by simp
 have hsI:¬ (seen:Int)+1<=(most:Int):=by omega
 have hbI:(seen:Int)<=100000000:=by omega
 have HST:Hid ((w.setCell ⟨n+1+1+1,0,none⟩ (.int .i64 ((seen:Int)+1))).heap[n+1+1+1]? = some (.cells #[.int .i64 ((seen+1:Nat):Int)] 3 (0,0))):=Lib.hid (by
  have e:((seen:Int)+1)=((seen+1:Nat):Int):=by omega
  rw [e]
  exact set_one h.s)
 have HO:Hid (∀ o1 o2,Only [n+1+1+1] w (((w.setCell ⟨n+1+1+1,0,none⟩ (.int .i64 ((seen:Int)+1))).alloc o1).alloc o2)):=Lib.hid (fun o1 o2=>(((Only.refl _ _).setCell (by simp) _).alloc _).alloc _)
 have HENT:=Lib.hid ent
 have HCALL:=Lib.hid hcall
 have HR:=Lib.hid hR
 have HHT:=Lib.hid h
 clear h ent hcall hR
 go_enter Tryz.func301,Tryz.ntmps301
 go_wp2_with fail
 rw [HENT.out,Oper.upon_enter]
 have hst2:(((w.setCell ⟨n+1+1+1,0,none⟩ (.int .i64 ((seen:Int)+1))).alloc (.cells #[.int .u64 (kx:Nat),.int .i64 (fx:Nat)] PTI12)).alloc (.cells #[.int .u64 0,.int .i64 0] PTI12)).heap[n+1+1+1]? = some (.cells #[.int .i64 ((seen+1:Nat):Int)] 3 (0,0)):=by
  rw [Below.heap_alloc _ _ _ (by simp;omega),Below.heap_alloc _ _ _ (by simp;omega)]
  exact HST.out
 have hbr:(((w.setCell ⟨n+1+1+1,0,none⟩ (.int .i64 ((seen:Int)+1))).alloc (.cells #[.int .u64 (kx:Nat),.int .i64 (fx:Nat)] PTI12)).alloc (.cells #[.int .u64 0,.int .i64 0] PTI12)).heap[w.heap.size+1]? = some (.cells #[.int .u64 0,.int .i64 0] PTI12 (0,0)):=by
  have:=heap_alloc_new ((w.setCell ⟨n+1+1+1,0,none⟩ (.int .i64 ((seen:Int)+1))).alloc (.cells #[.int .u64 (kx:Nat),.int .i64 (fx:Nat)] PTI12)) (.cells #[.int .u64 0,.int .i64 0] PTI12)
  simpa using this
 have hoW:=HO.out (.cells #[.int .u64 (kx:Nat),.int .i64 (fx:Nat)] PTI12) (.cells #[.int .u64 0,.int .i64 0] PTI12)
 refine (HCALL.out _ hoW hst2).mono ?_
 rintro e w3 ⟨rfl,hr3,hk3⟩
 have hbr3:=hk3.same _ _ hbr
 obtain ⟨⟨r0,r1⟩,rf0,rf1⟩:=c2_at hbr3
 have hrr3:=(head_row hbr3).lt
 have hoF:Only [w.heap.size+1] w3 ((w3.setCell ⟨w.heap.size+1,0,none⟩ (.int .u64 (ky:Nat))).setCell ⟨w.heap.size+1,1,none⟩ (.int .i64 (fy:Nat))):=((Only.refl _ _).setCell (by simp) _).setCell (by simp) _
 have HF:Hid (R ((w3.setCell ⟨w.heap.size+1,0,none⟩ (.int .u64 (ky:Nat))).setCell ⟨w.heap.size+1,1,none⟩ (.int .i64 (fy:Nat)))/\KeepT PTI12 w ((w3.setCell ⟨w.heap.size+1,0,none⟩ (.int .u64 (ky:Nat))).setCell ⟨w.heap.size+1,1,none⟩ (.int .i64 (fy:Nat)))):=Lib.hid ⟨HR.out _ _ hr3 (hoF.below (by simp) (by omega)) (fun g cs t m hg ht=>(hoF.block g (Array.getElem?_eq_some_iff.1 hg).1 (fun hm=>by
   rw [List.mem_singleton] at hm
   subst hm
   rw [hbr3] at hg
   injection hg with hg
   injection hg with _ hg
   exact ht hg.symm)).trans hg),⟨by have:=hk3.size;simp at this ⊢;omega,fun g cs hg=>by
   have hgl:=(Array.getElem?_eq_some_iff.1 hg).1
   have h5:g≠n+1+1+1:=fun e=>by
    rw [e,HHT.out.s] at hg
    injection hg with hg
    injection hg with _ hg
    exact absurd hg (by decide)
   exact (hoF.block g (Nat.lt_of_lt_of_le hgl (by have:=hk3.size;simp at this;omega)) (by simp;omega)).trans (hk3.same g cs ((hoW.block g hgl (by simpa using h5)).trans hg))⟩⟩
 clear hr3 hk3 hbr3 hbr hst2 hoW hoF HCALL HR HHT HENT HST HO
 go_wp2
 exact bodyPost_ret (v := .tuple #[.agg #[.int .u64 (ky:Nat),.int .i64 (fy:Nat)],.bool b]) (by simp [results,Tryz.results301,go_sem,r0,r1]) rfl ⟨rfl,HF.out⟩
end
end Go.Proofs.YtcpggonengkgiaaGreatDoor
