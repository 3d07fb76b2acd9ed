/- Words and walks: McU12. -/
import Derived.Test.YtcpggonengkgiaaGreatDoorG33
import Derived.Test.YtcpggonengkgiaaGreatDoorG41
import Derived.Laws.EntriesVeiled
namespace Go.Proofs.YtcpggonengkgiaaGreatDoor
open Go Go.RowKit Go.Deep
set_option maxRecDepth 8000
abbrev pf12 (g g2:Nat):PolF:=⟨204,205,206,207,208,203,209,210,211,212,#[.pointer (some ⟨g,0,none⟩)],#[.pointer (some ⟨g2,0,none⟩),.pointer (some ⟨g,0,none⟩)],#[.pointer (some ⟨g,0,none⟩)],#[.pointer (some ⟨g,0,none⟩)],#[.pointer (some ⟨g,0,none⟩)],#[.pointer (some ⟨g,0,none⟩)],#[.pointer (some ⟨g,0,none⟩)],#[.pointer (some ⟨g,0,none⟩)],#[.pointer (some ⟨g,0,none⟩)],#[.pointer (some ⟨g,0,none⟩)]⟩
def Iv12 (g g2:Nat) (W:World):Prop:=W.heap[g]? = some (.cells cl12C CT12 (0,0))/\W.heap[g2]? = some (.cells #[.func (.func 203) #[] #[.pointer (some ⟨g,0,none⟩)]] RT13_12 (0,0))
theorem is12 {m:M13} (h:m.ps.tag=5):∃ s,m.ps = .lirs s:=by
 cases hp:m.ps with
 | lru s=>rw [hp] at h;cases h
 | twoq s=>rw [hp] at h;cases h
 | sthree s=>rw [hp] at h;cases h
 | arc s=>rw [hp] at h;cases h
 | lirs s=>exact ⟨s,rfl⟩
theorem polv12 (PO:Pol12Ok) (g g2:Nat):PolV (pf12 g g2) 5 [g,g2] (Iv12 g g2) where
 e0:=fun args W=>by kernel_rfl
 e1:=fun args W=>by kernel_rfl
 e2:=fun args W=>by kernel_rfl
 e3:=fun args W=>by kernel_rfl
 e4:=fun args W=>by kernel_rfl
 e5:=fun args W=>by kernel_rfl
 e6:=fun args W=>by kernel_rfl
 e7:=fun args W=>by kernel_rfl
 e8:=fun args W=>by kernel_rfl
 e9:=fun args W=>by kernel_rfl
 typ:=fun W h k hk=>by
  simp only [List.mem_cons,List.not_mem_nil,or_false] at hk
  rcases hk with rfl | rfl
  ·exact ⟨_,_,h.1,by decide,by decide⟩
  ·exact ⟨_,_,h.2,by decide,by decide⟩
 stay:=fun W W' h hk=>⟨(hk g (by simp)).trans h.1,(hk g2 (by simp)).trans h.2⟩
 own:=fun {W b m x} hi hs ht ok=>by
  obtain ⟨s,hps⟩:=is12 ht
  have ok2:s.Ok:=by
   have h:=ok
   rw [hps] at h
   exact h
  rw [hps]
  exact own12c PO hi.1 hs hps ok2 hi.2
 touch:=fun {W b m x} hi hs ht ok k hk=>by
  obtain ⟨s,hps⟩:=is12 ht
  have ok2:s.Ok:=by
   have h:=ok
   rw [hps] at h
   exact h
  rw [hps]
  exact touch12c PO hi.1 hs hps ok2 k hk
 adm:=fun {W b m x} hi hs ht ok k hk=>by
  obtain ⟨s,hps⟩:=is12 ht
  have ok2:s.Ok:=by
   have h:=ok
   rw [hps] at h
   exact h
  rw [hps]
  exact adm12c PO hi.1 hs hps ok2 k hk
 drop:=fun {W b m x} hi hs ht ok k hk=>by
  obtain ⟨s,hps⟩:=is12 ht
  have ok2:s.Ok:=by
   have h:=ok
   rw [hps] at h
   exact h
  rw [hps]
  exact drop12c PO hi.1 hs hps ok2 k hk
 rsz:=fun {W b m x} hi hs ht ok n h1 h2=>by
  obtain ⟨s,hps⟩:=is12 ht
  have ok2:s.Ok:=by
   have h:=ok
   rw [hps] at h
   exact h
  rw [hps]
  exact resize12c PO hi.1 hs hps ok2 n h1 h2
 has:=fun {W b m x} hi hs ht ok k hk=>by
  obtain ⟨s,hps⟩:=is12 ht
  have ok2:s.Ok:=by
   have h:=ok
   rw [hps] at h
   exact h
  rw [hps]
  exact has12c PO hi.1 hs hps ok2 k hk
 keys:=fun {W b m x} hi hs ht ok=>by
  obtain ⟨s,hps⟩:=is12 ht
  have ok2:s.Ok:=by
   have h:=ok
   rw [hps] at h
   exact h
  rw [hps]
  exact keys12c PO hi.1 hs hps ok2
 gho:=fun {W b m x} hi hs ht ok=>by
  obtain ⟨s,hps⟩:=is12 ht
  have ok2:s.Ok:=by
   have h:=ok
   rw [hps] at h
   exact h
  rw [hps]
  exact ghosts12c PO hi.1 hs hps ok2
 cap:=fun {W b m x} hi hs ht ok=>by
  obtain ⟨s,hps⟩:=is12 ht
  rw [hps]
  exact caps12c hi.1 hs hps
theorem pols12 (PO:Pol12Ok) (g g2:Nat):PolS (pf12 g g2) 5 (Iv12 g g2):=⟨fun {_ _ _} hi hb hp n h1 h2=>start12c PO hi.1 hb hp n h1 h2⟩
set_option maxHeartbeats 2000000 in
theorem over12_walk (w:World):Calls Tryz.prog 98 #[.agg cl12C] w fun e w'=>e = .returned (.agg (pf12 w.heap.size (w.heap.size+1+1)).C)/\Below w.heap.size w w'/\Iv12 w.heap.size (w.heap.size+1+1) w':=by
 have hmf:∀ (fn:Fn) (first cap:Array Value) (w:World),(Instr.makeFunc fn first cap).run Tryz.prog w = .ok (.func fn first cap) w:=fun _ _ _ _=>rfl
 go_enter Tryz.func98,Tryz.ntmps98
 go_wp2_with fail
 refine bodyPost_ret (v := .agg (pf12 w.heap.size (w.heap.size+1+1)).C) (by simp [results,Tryz.results98,go_sem]) rfl ⟨rfl,(low_two w _ _).alloc (by simp;omega) _,?_,?_⟩
 ·rw [Below.heap_alloc _ _ _ (by simp;omega),Below.heap_alloc _ _ _ (by simp)]
  exact heap_alloc_new w _
 ·have:=heap_alloc_new ((w.alloc (.cells cl12C CT12)).alloc (.cells (pf12 w.heap.size (w.heap.size+1+1)).C PolT)) (.cells #[.func (.func 203) #[] #[.pointer (some ⟨w.heap.size,0,none⟩)]] RT13_12)
  simpa using this
set_option maxHeartbeats 2000000 in
theorem policyOf12_walk (w:World):Calls Tryz.prog 28 #[.int .i64 5] w fun e w'=>e = .returned (.tuple #[.agg (pf12 (w.heap.size+1) (w.heap.size+1+1+1)).C,.bool true])/\Below w.heap.size w w'/\Iv12 (w.heap.size+1) (w.heap.size+1+1+1) w':=by
 have HO:=Lib.hid (over12_walk (w.alloc (.cells #[.nilFunc,.nilFunc,.nilFunc,.nilFunc,.nilFunc,.nilFunc,.nilFunc,.nilFunc,.nilFunc,.nilFunc] PolT)))
 have hr:=heap_alloc_new w (.cells #[.nilFunc,.nilFunc,.nilFunc,.nilFunc,.nilFunc,.nilFunc,.nilFunc,.nilFunc,.nilFunc,.nilFunc] PolT)
 have HR:=Lib.hid hr
 have HL:=Lib.hid (low_one w (.cells #[.nilFunc,.nilFunc,.nilFunc,.nilFunc,.nilFunc,.nilFunc,.nilFunc,.nilFunc,.nilFunc,.nilFunc] PolT))
 clear hr
 go_enter Tryz.func28,Tryz.ntmps28
 go_wp2_with fail
 refine HO.out.mono ?_
 rintro e w2 ⟨rfl,hb2,hi2⟩
 simp only [World.size_alloc] at hi2
 have hr2:=(hb2.block _ (head_row HR.out).lt).trans HR.out
 have HEND:Hid (∀ W,Only [w.heap.size] w2 W->Below w.heap.size w W/\Iv12 (w.heap.size+1) (w.heap.size+1+1+1) W):=Lib.hid (fun W ho=>by
  have h3:=hb2.size
  simp only [World.size_alloc] at h3
  refine ⟨(HL.out.trans (hb2.mono HL.out.size)).trans (ho.below (by simp) (by omega)),(ho.block _ (head_row hi2.1).lt (by simp)).trans hi2.1,(ho.block _ (head_row hi2.2).lt (by simp;omega)).trans hi2.2⟩)
 obtain ⟨⟨z0,z1,z2,z3,z4,z5,z6,z7,z8,z9⟩,zf⟩:=c10_at hr2
 have zf0:=zf 0
 have zf1:=zf 1
 have zf2:=zf 2
 have zf3:=zf 3
 have zf4:=zf 4
 have zf5:=zf 5
 have zf6:=zf 6
 have zf7:=zf 7
 have zf8:=zf 8
 have zf9:=zf 9
 clear hb2 hi2 hr2 HO HR HL zf
 simp only [World.size_alloc]
 go_wp2_with fail
 refine bodyPost_ret (v := .tuple #[.agg (pf12 (w.heap.size+1) (w.heap.size+1+1+1)).C,.bool true]) (by simp [results,Tryz.results28,go_sem,z0,z1,z2,z3,z4,z5,z6,z7,z8,z9]) rfl ⟨rfl,HEND.out _ ((((((((((((Only.refl _ _).setCell (by simp) _).setCell (by simp) _).setCell (by simp) _).setCell (by simp) _).setCell (by simp) _).setCell (by simp) _).setCell (by simp) _).setCell (by simp) _).setCell (by simp) _).setCell (by simp) _))⟩
end Go.Proofs.YtcpggonengkgiaaGreatDoor
