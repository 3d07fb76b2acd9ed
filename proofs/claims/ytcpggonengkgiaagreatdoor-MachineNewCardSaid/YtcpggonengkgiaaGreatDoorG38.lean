/- Words and walks: McVC9 McVD9 McU9 McVA10. -/
import Derived.Test.YtcpggonengkgiaaGreatDoorG32
import Derived.Test.YtcpggonengkgiaaGreatDoorG35
import Derived.Test.YtcpggonengkgiaaGreatDoorG37
import Derived.Test.YtcpggonengkgiaaGreatDoorG9
import Derived.Deep.RegionHeld3
import Derived.Laws.EntriesVeiled
import Derived.Deep.RegionWith
/- The machine's calls of twoq. -/
namespace Go.Proofs.YtcpggonengkgiaaGreatDoor
open Go Go.RowKit Go.Deep
set_option maxRecDepth 8000
section
variable {w : World} {b g : Nat} {m : M13} {x : V13} {s : L9}
set_option maxHeartbeats 4000000 in
theorem own9c (PO : Pol9Ok) (hc : w.heap[g]? = some (.cells cl9C CT9 (0, 0))) (h : S13 w PT13 b m x) (hps : m.ps = .twoq s) (ok : s.Ok) {g2 : Nat} (hr : w.heap[g2]? = some (.cells #[.func (.func 149) #[] #[.pointer (some ⟨g, 0, none⟩)]] RT13_9 (0, 0))) :
    Calls Tryz.prog 151 #[.pointer (some ⟨b, 0, none⟩), .pointer (some ⟨g2, 0, none⟩), .pointer (some ⟨g, 0, none⟩)] w fun e w' => e = .returned (.tuple #[]) ∧ Ps w b m x (.twoq s) w' := by
  have hb := h.lt
  have hpol := h.st.pol
  rw [hps] at hpol
  obtain ⟨hp, hc0, hst⟩ := hpol
  have hcl := (head_row hc).lt
  have hrl := (head_row hr).lt
  have HSS : Hid (∀ W : World, Below w.heap.size w W → W.cell? ⟨g2, 0, none⟩ = some (.func (.func 149) #[] #[.pointer (some ⟨g, 0, none⟩)]) ∧ W.cell? ⟨g, 0, none⟩ = some (.func (.func 66) #[] #[]) ∧ W.cell? ⟨g, 9, none⟩ = some (.func (.func 75) #[] #[])) := Lib.hid (fun W hW => by
    exact ⟨(head_row ((hW.block g2 hrl).trans hr)).cell (i := 0) (by simp), (head_row ((hW.block g hcl).trans hc)).cell (i := 0) (by simp), (head_row ((hW.block g hcl).trans hc)).cell (i := 9) (by simp)⟩)
  have KC : Hid (∀ W F0 n0 d0 F1 n1 d1 F2 n2 d2, Calls Tryz.prog 75 #[.agg (l9C s.c (.slice F0 n0 d0) (.slice F1 n1 d1) (.slice F2 n2 d2))] W (fun e w' => e = .returned (.int .i64 (s.c : Nat)) ∧ Below W.heap.size W w')) := Lib.hid (fun W F0 n0 d0 F1 n1 d1 F2 n2 d2 => cap9 W s _ _ _ (⟨⟨F0, n0, d0, rfl⟩, ⟨F1, n1, d1, rfl⟩, ⟨F2, n2, d2, rfl⟩⟩))
  have hcap := ok.cap
  have KR : Hid (∀ W, Below w.heap.size w W → Calls Tryz.prog 149 #[.pointer (some ⟨b, 0, none⟩), .int .i64 (s.c : Nat), .pointer (some ⟨g, 0, none⟩)] W (fun e w' => ∃ v, e = .returned v ∧ Ps w b m x (.twoq s) w')) := Lib.hid (fun W hW => by
    refine (resize9c PO ((hW.block g hcl).trans hc) (h.below hW) hps ok (s.c : Nat) (by omega) (by omega)).mono ?_
    rintro e w' ⟨v, rfl, ⟨h1, x', h2, h3⟩, _⟩
    rw [(L9.own ok).1] at h3
    exact ⟨v, rfl, ⟨(Only.of_below hW).trans h1 (by simp), x', h2, h3⟩⟩)
  obtain ⟨k0, k1, k2⟩ := HSS.out w (Below.refl _ _)
  obtain ⟨-, -, -, p3, p4, p5, p6, -⟩ := box_cells h.box
  rw [hc0] at p3
  clear hst hc0 hp h hps hc hr hcap
  go_enter Tryz.func151, Tryz.ntmps151
  go_wp2_with fail
  go_region_with (first | (go_at_call 66; refine (fld9 _ b).mono ?_; rintro e w1 ⟨rfl, rfl⟩) | (go_at_call 75; refine (KC.out _ _ _ _ _ _ _ _ _ _).mono ?_; rintro e w5 ⟨rfl, hb5⟩; have hbA := (below_drewn (Below.refl w.heap.size w) _).trans hb5; obtain ⟨k0, k1, k2⟩ := HSS.out w5 hbA) | (go_at_call 149; refine (KR.out _ hbA).mono ?_; rintro e w6 ⟨v6, rfl, hp6⟩))
  all_goals
    go_wp2
    go_end0
    exact ⟨rfl, hp6⟩
end
end Go.Proofs.YtcpggonengkgiaaGreatDoor
/- The machine's calls of twoq. -/
namespace Go.Proofs.YtcpggonengkgiaaGreatDoor
open Go Go.RowKit Go.Deep
set_option maxRecDepth 8000
section
variable {w : World} {b g : Nat} {m : M13} {x : V13} {s : L9}
set_option maxHeartbeats 4000000 in
theorem start9c (PO : Pol9Ok) (hc : w.heap[g]? = some (.cells cl9C CT9 (0, 0))) (h : w.heap[b]? = some (.cells x.C PT13 (0, 0))) (hp : x.p = 2) (n : Int) (hn1 : -9223372036854775808 ≤ n) (hn2 : n ≤ 9223372036854775807) :
    Calls Tryz.prog 150 #[.pointer (some ⟨b, 0, none⟩), .int .i64 n, .pointer (some ⟨g, 0, none⟩)] w fun e w' => e = .returned (.tuple #[]) ∧ Only [b] w w' ∧ ∃ x' : V13, x'.pr = x.pr ∧ x'.p = x.p ∧ x'.hi = x.hi ∧ x'.mi = x.mi ∧ x'.ev = x.ev ∧ w'.heap[b]? = some (.cells x'.C PT13 (0, 0)) ∧ PolIn w' x' (.twoq (L9.new n)) := by
  have hb := (head_row h).lt
  have hcl := (head_row hc).lt
  have KT : Hid (∀ W, Below w.heap.size w W → Calls Tryz.prog 67 #[.int .i64 n] W (P9 W (L9.new n))) := Lib.hid (fun W _ => PO.new W n hn1 hn2)
  have HLD : Hid (∀ W : World, Below w.heap.size w W → W.cell? ⟨g, 0, none⟩ = some (.func (.func 66) #[] #[]) ∧ W.cell? ⟨g, 1, none⟩ = some (.func (.func 67) #[] #[])) := Lib.hid (fun W hW => ⟨(head_row ((hW.block g hcl).trans hc)).cell (i := 0) (by simp), (head_row ((hW.block g hcl).trans hc)).cell (i := 1) (by simp)⟩)
  have HFR : Hid (∀ W : World, Below w.heap.size w W → (W.frozen? ⟨b, 3, none⟩ = false ∧ W.frozen? ⟨b, 4, none⟩ = false ∧ W.frozen? ⟨b, 5, none⟩ = false ∧ W.frozen? ⟨b, 6, none⟩ = false) ∧ ∃ v3 v4 v5 v6, W.cell? ⟨b, 3, none⟩ = some v3 ∧ W.cell? ⟨b, 4, none⟩ = some v4 ∧ W.cell? ⟨b, 5, none⟩ = some v5 ∧ W.cell? ⟨b, 6, none⟩ = some v6) := Lib.hid (fun W hW => by
    obtain ⟨-, -, -, p3, p4, p5, p6, -⟩ := box_cells ((hW.block b hb).trans h)
    exact ⟨⟨box_free ((hW.block b hb).trans h) 3, box_free ((hW.block b hb).trans h) 4, box_free ((hW.block b hb).trans h) 5, box_free ((hW.block b hb).trans h) 6⟩, _, _, _, _, p3, p4, p5, p6⟩)
  obtain ⟨k0, k1⟩ := HLD.out w (Below.refl _ _)
  have HEND : Hid (∀ W F0 n0 d0 F1 n1 d1 F2 n2 d2, Below w.heap.size w W → St9 W (L9.new n) (.slice F0 n0 d0) (.slice F1 n1 d1) (.slice F2 n2 d2) → Only [b] w ((((W.setCell ⟨b, 3, none⟩ (.int .i64 ((L9.new n).c : Nat))).setCell ⟨b, 4, none⟩ (.slice F0 n0 d0)).setCell ⟨b, 5, none⟩ (.slice F1 n1 d1)).setCell ⟨b, 6, none⟩ (.slice F2 n2 d2)) ∧ ∃ x' : V13, x'.pr = x.pr ∧ x'.p = x.p ∧ x'.hi = x.hi ∧ x'.mi = x.mi ∧ x'.ev = x.ev ∧ (((((W.setCell ⟨b, 3, none⟩ (.int .i64 ((L9.new n).c : Nat))).setCell ⟨b, 4, none⟩ (.slice F0 n0 d0)).setCell ⟨b, 5, none⟩ (.slice F1 n1 d1)).setCell ⟨b, 6, none⟩ (.slice F2 n2 d2))).heap[b]? = some (.cells x'.C PT13 (0, 0)) ∧ PolIn ((((W.setCell ⟨b, 3, none⟩ (.int .i64 ((L9.new n).c : Nat))).setCell ⟨b, 4, none⟩ (.slice F0 n0 d0)).setCell ⟨b, 5, none⟩ (.slice F1 n1 d1)).setCell ⟨b, 6, none⟩ (.slice F2 n2 d2)) x' (.twoq (L9.new n))) := Lib.hid (fun W F0 n0 d0 F1 n1 d1 F2 n2 d2 hW hs => by
    have hbx : ∀ j ∈ [b], Bx W j := fun j hj => by
      have e : j = b := by simpa using hj
      rw [e]
      exact ⟨_, _, (hW.block b hb).trans h, x.nou, by decide⟩
    obtain ⟨h1, h2⟩ := box_set9 ((hW.block b hb).trans h) ((L9.new n).c : Nat) F0 n0 d0 F1 n1 d1 F2 n2 d2
    exact ⟨(Only.of_below hW).trans h2 (by simp), { x with c9 := ((L9.new n).c : Nat), i9 := ⟨F0, n0, d0⟩, o9 := ⟨F1, n1, d1⟩, m9 := ⟨F2, n2, d2⟩ }, rfl, rfl, rfl, rfl, rfl, h1, ⟨hp, rfl, ⟨hs.g1.only h2 hbx, hs.g2.only h2 hbx, hs.g3.only h2 hbx⟩⟩⟩)
  clear h hc hp
  go_enter Tryz.func150, Tryz.ntmps150
  go_wp2_with fail
  go_region_with (first | (go_at_call 66; refine (fld9 _ b).mono ?_; rintro e w1 ⟨rfl, rfl⟩) | (go_at_call 67; refine (KT.out _ (below_drewn (Below.refl _ _) _)).mono ?_; rintro e w5 ⟨u50, u51, u52, rfl, hb5, hk5⟩; obtain ⟨F50, n50, d50, rfl⟩ := hk5.form1; obtain ⟨F51, n51, d51, rfl⟩ := hk5.form2; obtain ⟨F52, n52, d52, rfl⟩ := hk5.form3; have hbA := (below_drewn (Below.refl w.heap.size w) _).trans hb5; obtain ⟨k0, k1⟩ := HLD.out w5 hbA; obtain ⟨⟨z0, z1, z2, z3⟩, y3, y4, y5, y6, y'3, y'4, y'5, y'6⟩ := HFR.out w5 hbA))
  all_goals
    go_wp2
    go_end0
    exact ⟨rfl, HEND.out _ _ _ _ _ _ _ _ _ _ hbA hk5⟩
end
end Go.Proofs.YtcpggonengkgiaaGreatDoor
/- The machine's calls of twoq, packed. -/
namespace Go.Proofs.YtcpggonengkgiaaGreatDoor
open Go Go.RowKit Go.Deep
set_option maxRecDepth 8000
abbrev pf9 (g g2 : Nat) : PolF := ⟨150, 151, 152, 153, 154, 149, 155, 156, 157, 158, #[.pointer (some ⟨g, 0, none⟩)], #[.pointer (some ⟨g2, 0, none⟩), .pointer (some ⟨g, 0, none⟩)], #[.pointer (some ⟨g, 0, none⟩)], #[.pointer (some ⟨g, 0, none⟩)], #[.pointer (some ⟨g, 0, none⟩)], #[.pointer (some ⟨g, 0, none⟩)], #[.pointer (some ⟨g, 0, none⟩)], #[.pointer (some ⟨g, 0, none⟩)], #[.pointer (some ⟨g, 0, none⟩)], #[.pointer (some ⟨g, 0, none⟩)]⟩
def Iv9 (g g2 : Nat) (W : World) : Prop := W.heap[g]? = some (.cells cl9C CT9 (0, 0)) ∧ W.heap[g2]? = some (.cells #[.func (.func 149) #[] #[.pointer (some ⟨g, 0, none⟩)]] RT13_9 (0, 0))
theorem is9 {m : M13} (h : m.ps.tag = 2) : ∃ s, m.ps = .twoq s := by
  cases hp : m.ps with
  | lru s => rw [hp] at h; cases h
  | twoq s => exact ⟨s, rfl⟩
  | sthree s => rw [hp] at h; cases h
  | arc s => rw [hp] at h; cases h
  | lirs s => rw [hp] at h; cases h
theorem polv9 (PO : Pol9Ok) (g g2 : Nat) : PolV (pf9 g g2) 2 [g, g2] (Iv9 g g2) where
  e0 := fun args W => by kernel_rfl
  e1 := fun args W => by kernel_rfl
  e2 := fun args W => by kernel_rfl
  e3 := fun args W => by kernel_rfl
  e4 := fun args W => by kernel_rfl
  e5 := fun args W => by kernel_rfl
  e6 := fun args W => by kernel_rfl
  e7 := fun args W => by kernel_rfl
  e8 := fun args W => by kernel_rfl
  e9 := fun args W => by kernel_rfl
  typ := fun W h k hk => by
    simp only [List.mem_cons, List.not_mem_nil, or_false] at hk
    rcases hk with rfl | rfl
    · exact ⟨_, _, h.1, by decide, by decide⟩
    · exact ⟨_, _, h.2, by decide, by decide⟩
  stay := fun W W' h hk => ⟨(hk g (by simp)).trans h.1, (hk g2 (by simp)).trans h.2⟩
  own := fun {W b m x} hi hs ht ok => by
    obtain ⟨s, hps⟩ := is9 ht
    have ok2 : s.Ok := by
      have h := ok
      rw [hps] at h
      exact h
    rw [hps]
    exact own9c PO hi.1 hs hps ok2 hi.2
  touch := fun {W b m x} hi hs ht ok k hk => by
    obtain ⟨s, hps⟩ := is9 ht
    have ok2 : s.Ok := by
      have h := ok
      rw [hps] at h
      exact h
    rw [hps]
    exact touch9c PO hi.1 hs hps ok2 k hk
  adm := fun {W b m x} hi hs ht ok k hk => by
    obtain ⟨s, hps⟩ := is9 ht
    have ok2 : s.Ok := by
      have h := ok
      rw [hps] at h
      exact h
    rw [hps]
    exact adm9c PO hi.1 hs hps ok2 k hk
  drop := fun {W b m x} hi hs ht ok k hk => by
    obtain ⟨s, hps⟩ := is9 ht
    have ok2 : s.Ok := by
      have h := ok
      rw [hps] at h
      exact h
    rw [hps]
    exact drop9c PO hi.1 hs hps ok2 k hk
  rsz := fun {W b m x} hi hs ht ok n h1 h2 => by
    obtain ⟨s, hps⟩ := is9 ht
    have ok2 : s.Ok := by
      have h := ok
      rw [hps] at h
      exact h
    rw [hps]
    exact resize9c PO hi.1 hs hps ok2 n h1 h2
  has := fun {W b m x} hi hs ht ok k hk => by
    obtain ⟨s, hps⟩ := is9 ht
    have ok2 : s.Ok := by
      have h := ok
      rw [hps] at h
      exact h
    rw [hps]
    exact has9c PO hi.1 hs hps ok2 k hk
  keys := fun {W b m x} hi hs ht ok => by
    obtain ⟨s, hps⟩ := is9 ht
    have ok2 : s.Ok := by
      have h := ok
      rw [hps] at h
      exact h
    rw [hps]
    exact keys9c PO hi.1 hs hps ok2
  gho := fun {W b m x} hi hs ht ok => by
    obtain ⟨s, hps⟩ := is9 ht
    have ok2 : s.Ok := by
      have h := ok
      rw [hps] at h
      exact h
    rw [hps]
    exact ghosts9c PO hi.1 hs hps ok2
  cap := fun {W b m x} hi hs ht ok => by
    obtain ⟨s, hps⟩ := is9 ht
    rw [hps]
    exact caps9c hi.1 hs hps
theorem pols9 (PO : Pol9Ok) (g g2 : Nat) : PolS (pf9 g g2) 2 (Iv9 g g2) := ⟨fun {_ _ _} hi hb hp n h1 h2 => start9c PO hi.1 hb hp n h1 h2⟩
set_option maxHeartbeats 2000000 in
theorem over9_walk (w : World) : Calls Tryz.prog 65 #[.agg cl9C] w fun e w' => e = .returned (.agg (pf9 w.heap.size (w.heap.size + 1 + 1)).C) ∧ Below w.heap.size w w' ∧ Iv9 w.heap.size (w.heap.size + 1 + 1) w' := by
  have hmf : ∀ (fn : Fn) (first cap : Array Value) (w : World), (Instr.makeFunc fn first cap).run Tryz.prog w = .ok (.func fn first cap) w := fun _ _ _ _ => rfl
  go_enter Tryz.func65, Tryz.ntmps65
  go_wp2_with fail
  refine bodyPost_ret (v := .agg (pf9 w.heap.size (w.heap.size + 1 + 1)).C) (by simp [results, Tryz.results65, go_sem]) rfl ⟨rfl, (low_two w _ _).alloc (by simp; omega) _, ?_, ?_⟩
  · rw [Below.heap_alloc _ _ _ (by simp; omega), Below.heap_alloc _ _ _ (by simp)]
    exact heap_alloc_new w _
  · have := heap_alloc_new ((w.alloc (.cells cl9C CT9)).alloc (.cells (pf9 w.heap.size (w.heap.size + 1 + 1)).C PolT)) (.cells #[.func (.func 149) #[] #[.pointer (some ⟨w.heap.size, 0, none⟩)]] RT13_9)
    simpa using this
set_option maxHeartbeats 2000000 in
theorem policyOf9_walk (w : World) : Calls Tryz.prog 28 #[.int .i64 2] w fun e w' => e = .returned (.tuple #[.agg (pf9 (w.heap.size + 1) (w.heap.size + 1 + 1 + 1)).C, .bool true]) ∧ Below w.heap.size w w' ∧ Iv9 (w.heap.size + 1) (w.heap.size + 1 + 1 + 1) w' := by
  have HO := Lib.hid (over9_walk (w.alloc (.cells #[.nilFunc, .nilFunc, .nilFunc, .nilFunc, .nilFunc, .nilFunc, .nilFunc, .nilFunc, .nilFunc, .nilFunc] PolT)))
  have hr := heap_alloc_new w (.cells #[.nilFunc, .nilFunc, .nilFunc, .nilFunc, .nilFunc, .nilFunc, .nilFunc, .nilFunc, .nilFunc, .nilFunc] PolT)
  have HR := Lib.hid hr
  have HL := Lib.hid (low_one w (.cells #[.nilFunc, .nilFunc, .nilFunc, .nilFunc, .nilFunc, .nilFunc, .nilFunc, .nilFunc, .nilFunc, .nilFunc] PolT))
  clear hr
  go_enter Tryz.func28, Tryz.ntmps28
  go_wp2_with fail
  refine HO.out.mono ?_
  rintro e w2 ⟨rfl, hb2, hi2⟩
  simp only [World.size_alloc] at hi2
  have hr2 := (hb2.block _ (head_row HR.out).lt).trans HR.out
  have HEND : Hid (∀ W, Only [w.heap.size] w2 W → Below w.heap.size w W ∧ Iv9 (w.heap.size + 1) (w.heap.size + 1 + 1 + 1) W) := Lib.hid (fun W ho => by
    have h3 := hb2.size
    simp only [World.size_alloc] at h3
    refine ⟨(HL.out.trans (hb2.mono HL.out.size)).trans (ho.below (by simp) (by omega)), (ho.block _ (head_row hi2.1).lt (by simp)).trans hi2.1, (ho.block _ (head_row hi2.2).lt (by simp; omega)).trans hi2.2⟩)
  obtain ⟨⟨z0, z1, z2, z3, z4, z5, z6, z7, z8, z9⟩, zf⟩ := c10_at hr2
  have zf0 := zf 0
  have zf1 := zf 1
  have zf2 := zf 2
  have zf3 := zf 3
  have zf4 := zf 4
  have zf5 := zf 5
  have zf6 := zf 6
  have zf7 := zf 7
  have zf8 := zf 8
  have zf9 := zf 9
  clear hb2 hi2 hr2 HO HR HL zf
  simp only [World.size_alloc]
  go_wp2_with fail
  refine bodyPost_ret (v := .tuple #[.agg (pf9 (w.heap.size + 1) (w.heap.size + 1 + 1 + 1)).C, .bool true]) (by simp [results, Tryz.results28, go_sem, z0, z1, z2, z3, z4, z5, z6, z7, z8, z9]) rfl ⟨rfl, HEND.out _ ((((((((((((Only.refl _ _).setCell (by simp) _).setCell (by simp) _).setCell (by simp) _).setCell (by simp) _).setCell (by simp) _).setCell (by simp) _).setCell (by simp) _).setCell (by simp) _).setCell (by simp) _).setCell (by simp) _))⟩
end Go.Proofs.YtcpggonengkgiaaGreatDoor
/- The machine's calls of sthree. -/
namespace Go.Proofs.YtcpggonengkgiaaGreatDoor
open Go Go.RowKit Go.Deep
set_option maxRecDepth 8000
abbrev CT10 : TypeId := 164
abbrev RT13_10 : TypeId := 93
abbrev cl10C : Array Value := #[.func (.func 77) #[] #[], .func (.func 78) #[] #[], .func (.func 79) #[] #[], .func (.func 80) #[] #[], .func (.func 81) #[] #[], .func (.func 82) #[] #[], .func (.func 83) #[] #[], .func (.func 84) #[] #[], .func (.func 85) #[] #[], .func (.func 86) #[] #[]]
section
variable {w : World} {b g : Nat} {m : M13} {x : V13} {s : L10}
theorem fld10 (w : World) (b : Nat) : Calls Tryz.prog 77 #[.pointer (some ⟨b, 0, none⟩)] w fun e w' => e = .returned (.pointer (some ⟨b, 7, none⟩)) ∧ w' = w := by
  go_enter Tryz.func77, Tryz.ntmps77
  go_wp2
  go_ret
  exact ⟨rfl, rfl⟩
theorem cap10 (w : World) (s : L10) (u1 u2 u3 : Value) (hf : (∃ F n d, u1 = .slice F n d) ∧ (∃ F n d, u2 = .slice F n d) ∧ (∃ F n d, u3 = .slice F n d)) : Calls Tryz.prog 86 #[.agg (l10C s.c u1 u2 u3)] w fun e w' => e = .returned (.int .i64 (s.c : Nat)) ∧ Below w.heap.size w w' := by
  obtain ⟨⟨F0, n0, d0, rfl⟩, ⟨F1, n1, d1, rfl⟩, ⟨F2, n2, d2, rfl⟩⟩ := hf
  go_enter Tryz.func86, Tryz.ntmps86
  go_wp2
  go_ret
  exact ⟨rfl, low_one w _⟩
set_option maxHeartbeats 2000000 in
theorem touch10c (PO : Pol10Ok) (hc : w.heap[g]? = some (.cells cl10C CT10 (0, 0))) (h : S13 w PT13 b m x) (hps : m.ps = .sthree s) (ok : s.Ok) (k : Nat) (hk : k < 18446744073709551616) :
    Calls Tryz.prog 166 #[.pointer (some ⟨b, 0, none⟩), .int .u64 (k : Nat), .pointer (some ⟨g, 0, none⟩)] w fun e w' => e = .returned (.tuple #[]) ∧ Ps w b m x (.sthree (s.touch k)) w' := by
  have hb := h.lt
  have hpol := h.st.pol
  rw [hps] at hpol
  obtain ⟨hp, hc0, hst⟩ := hpol
  have HF := Lib.hid (fld10 w b)
  have hcl := (head_row hc).lt
  have HLD : Hid (∀ W : World, Below w.heap.size w W → W.cell? ⟨b, 7, none⟩ = some (.int .i64 (s.c : Nat)) ∧ W.cell? ⟨b, 8, none⟩ = some (.slice x.s10.F x.s10.n x.s10.c) ∧ W.cell? ⟨b, 9, none⟩ = some (.slice x.m10.F x.m10.n x.m10.c) ∧ W.cell? ⟨b, 10, none⟩ = some (.slice x.g10.F x.g10.n x.g10.c) ∧ W.cell? ⟨g, 2, none⟩ = some (.func (.func 79) #[] #[])) := Lib.hid (fun W hW => by
    obtain ⟨-, -, -, -, -, -, -, p7, p8, p9, p10, -⟩ := box_cells ((hW.block b hb).trans h.box)
    rw [hc0] at p7
    exact ⟨p7, p8, p9, p10, (head_row ((hW.block g hcl).trans hc)).cell (i := 2) (by simp)⟩)
  have HFR : Hid (∀ W : World, Below w.heap.size w W → W.frozen? ⟨b, 7, none⟩ = false ∧ W.frozen? ⟨b, 8, none⟩ = false ∧ W.frozen? ⟨b, 9, none⟩ = false ∧ W.frozen? ⟨b, 10, none⟩ = false) := Lib.hid (fun W hW => ⟨box_free ((hW.block b hb).trans h.box) 7, box_free ((hW.block b hb).trans h.box) 8, box_free ((hW.block b hb).trans h.box) 9, box_free ((hW.block b hb).trans h.box) 10⟩)
  have HEND : Hid (∀ W F0 n0 d0 F1 n1 d1 F2 n2 d2, Below w.heap.size w W → St10 W (s.touch k) (.slice F0 n0 d0) (.slice F1 n1 d1) (.slice F2 n2 d2) → Ps w b m x (.sthree (s.touch k)) ((((W.setCell ⟨b, 7, none⟩ (.int .i64 ((s.touch k).c : Nat))).setCell ⟨b, 8, none⟩ (.slice F0 n0 d0)).setCell ⟨b, 9, none⟩ (.slice F1 n1 d1)).setCell ⟨b, 10, none⟩ (.slice F2 n2 d2)) ∧ ∀ o out, KV W o out → KV ((((W.setCell ⟨b, 7, none⟩ (.int .i64 ((s.touch k).c : Nat))).setCell ⟨b, 8, none⟩ (.slice F0 n0 d0)).setCell ⟨b, 9, none⟩ (.slice F1 n1 d1)).setCell ⟨b, 10, none⟩ (.slice F2 n2 d2)) o out) := Lib.hid (fun W F0 n0 d0 F1 n1 d1 F2 n2 d2 hW hs => by
    obtain ⟨h1, h2⟩ := box_set10 ((h.below hW).box) ((s.touch k).c : Nat) F0 n0 d0 F1 n1 d1 F2 n2 d2
    have h3 := (h.below hW).st.only h2 (h.below hW).bx
    exact ⟨⟨(Only.of_below hW).trans h2 (by simp), { x with c10 := ((s.touch k).c : Nat), s10 := ⟨F0, n0, d0⟩, m10 := ⟨F1, n1, d1⟩, g10 := ⟨F2, n2, d2⟩ }, rfl, ⟨h1, h.ty, ⟨⟨hp, rfl, ⟨hs.g1.only h2 (h.below hW).bx, hs.g2.only h2 (h.below hW).bx, hs.g3.only h2 (h.below hW).bx⟩⟩, h3.prs, h3.hi, h3.mi, h3.ev⟩⟩⟩, fun o out ho => ho.only h2 (h.below hW).bx⟩)
  have c0 : w.cell? ⟨g, 0, none⟩ = some (.func (.func 77) #[] #[]) := (head_row hc).cell (i := 0) (by simp)
  obtain ⟨k0, k1, k2, k3, k4⟩ := HLD.out w (Below.refl _ _)
  have KT : Hid (∀ W, Below w.heap.size w W → Calls Tryz.prog 79 #[(.agg (l10C s.c (.slice x.s10.F x.s10.n x.s10.c) (.slice x.m10.F x.m10.n x.m10.c) (.slice x.g10.F x.g10.n x.g10.c))), .int .u64 (k : Nat)] W (P10 W (s.touch k))) := Lib.hid (fun W hW => PO.touch (hst.below hW) ok k hk)
  clear hst hc0 hp h hps hc
  go_enter Tryz.func166, Tryz.ntmps166
  go_wp2_with (go_at_call 77; refine HF.out.mono ?_; rintro e w1 ⟨rfl, rfl⟩)
  go_region_with (go_at_call 79; refine (KT.out _ (below_drewn (Below.refl _ _) _)).mono ?_; rintro e w5 ⟨u50, u51, u52, rfl, hb5, hk5⟩; obtain ⟨F50, n50, d50, rfl⟩ := hk5.form1; obtain ⟨F51, n51, d51, rfl⟩ := hk5.form2; obtain ⟨F52, n52, d52, rfl⟩ := hk5.form3; have hbA := (below_drewn (Below.refl w1.heap.size w1) _).trans hb5; obtain ⟨z0, z1, z2, z3⟩ := HFR.out w5 hbA; obtain ⟨k0, k1, k2, k3, k4⟩ := HLD.out w5 hbA)
  all_goals
    go_wp2
    go_end0
    exact ⟨rfl, (HEND.out _ _ _ _ _ _ _ _ _ _ hbA hk5).1⟩
set_option maxHeartbeats 2000000 in
theorem adm10c (PO : Pol10Ok) (hc : w.heap[g]? = some (.cells cl10C CT10 (0, 0))) (h : S13 w PT13 b m x) (hps : m.ps = .sthree s) (ok : s.Ok) (k : Nat) (hk : k < 18446744073709551616) :
    Calls Tryz.prog 167 #[.pointer (some ⟨b, 0, none⟩), .int .u64 (k : Nat), .pointer (some ⟨g, 0, none⟩)] w fun e w' => ∃ v, e = .returned v ∧ Ps w b m x (.sthree (s.adm k)) w' ∧ KV w' v (s.admitOut k) := by
  have hb := h.lt
  have hpol := h.st.pol
  rw [hps] at hpol
  obtain ⟨hp, hc0, hst⟩ := hpol
  have HF := Lib.hid (fld10 w b)
  have hcl := (head_row hc).lt
  have HLD : Hid (∀ W : World, Below w.heap.size w W → W.cell? ⟨b, 7, none⟩ = some (.int .i64 (s.c : Nat)) ∧ W.cell? ⟨b, 8, none⟩ = some (.slice x.s10.F x.s10.n x.s10.c) ∧ W.cell? ⟨b, 9, none⟩ = some (.slice x.m10.F x.m10.n x.m10.c) ∧ W.cell? ⟨b, 10, none⟩ = some (.slice x.g10.F x.g10.n x.g10.c) ∧ W.cell? ⟨g, 3, none⟩ = some (.func (.func 80) #[] #[])) := Lib.hid (fun W hW => by
    obtain ⟨-, -, -, -, -, -, -, p7, p8, p9, p10, -⟩ := box_cells ((hW.block b hb).trans h.box)
    rw [hc0] at p7
    exact ⟨p7, p8, p9, p10, (head_row ((hW.block g hcl).trans hc)).cell (i := 3) (by simp)⟩)
  have HFR : Hid (∀ W : World, Below w.heap.size w W → W.frozen? ⟨b, 7, none⟩ = false ∧ W.frozen? ⟨b, 8, none⟩ = false ∧ W.frozen? ⟨b, 9, none⟩ = false ∧ W.frozen? ⟨b, 10, none⟩ = false) := Lib.hid (fun W hW => ⟨box_free ((hW.block b hb).trans h.box) 7, box_free ((hW.block b hb).trans h.box) 8, box_free ((hW.block b hb).trans h.box) 9, box_free ((hW.block b hb).trans h.box) 10⟩)
  have HEND : Hid (∀ W F0 n0 d0 F1 n1 d1 F2 n2 d2, Below w.heap.size w W → St10 W (s.adm k) (.slice F0 n0 d0) (.slice F1 n1 d1) (.slice F2 n2 d2) → Ps w b m x (.sthree (s.adm k)) ((((W.setCell ⟨b, 7, none⟩ (.int .i64 ((s.adm k).c : Nat))).setCell ⟨b, 8, none⟩ (.slice F0 n0 d0)).setCell ⟨b, 9, none⟩ (.slice F1 n1 d1)).setCell ⟨b, 10, none⟩ (.slice F2 n2 d2)) ∧ ∀ o out, KV W o out → KV ((((W.setCell ⟨b, 7, none⟩ (.int .i64 ((s.adm k).c : Nat))).setCell ⟨b, 8, none⟩ (.slice F0 n0 d0)).setCell ⟨b, 9, none⟩ (.slice F1 n1 d1)).setCell ⟨b, 10, none⟩ (.slice F2 n2 d2)) o out) := Lib.hid (fun W F0 n0 d0 F1 n1 d1 F2 n2 d2 hW hs => by
    obtain ⟨h1, h2⟩ := box_set10 ((h.below hW).box) ((s.adm k).c : Nat) F0 n0 d0 F1 n1 d1 F2 n2 d2
    have h3 := (h.below hW).st.only h2 (h.below hW).bx
    exact ⟨⟨(Only.of_below hW).trans h2 (by simp), { x with c10 := ((s.adm k).c : Nat), s10 := ⟨F0, n0, d0⟩, m10 := ⟨F1, n1, d1⟩, g10 := ⟨F2, n2, d2⟩ }, rfl, ⟨h1, h.ty, ⟨⟨hp, rfl, ⟨hs.g1.only h2 (h.below hW).bx, hs.g2.only h2 (h.below hW).bx, hs.g3.only h2 (h.below hW).bx⟩⟩, h3.prs, h3.hi, h3.mi, h3.ev⟩⟩⟩, fun o out ho => ho.only h2 (h.below hW).bx⟩)
  have c0 : w.cell? ⟨g, 0, none⟩ = some (.func (.func 77) #[] #[]) := (head_row hc).cell (i := 0) (by simp)
  obtain ⟨k0, k1, k2, k3, k4⟩ := HLD.out w (Below.refl _ _)
  have KT : Hid (∀ W, Below w.heap.size w W → Calls Tryz.prog 80 #[(.agg (l10C s.c (.slice x.s10.F x.s10.n x.s10.c) (.slice x.m10.F x.m10.n x.m10.c) (.slice x.g10.F x.g10.n x.g10.c))), .int .u64 (k : Nat)] W (P10o W (s.adm k) (s.admitOut k))) := Lib.hid (fun W hW => PO.adm (hst.below hW) ok k hk)
  clear hst hc0 hp h hps hc
  go_enter Tryz.func167, Tryz.ntmps167
  go_wp2_with (go_at_call 77; refine HF.out.mono ?_; rintro e w1 ⟨rfl, rfl⟩)
  go_region_with (go_at_call 80; refine (KT.out _ (below_drewn (Below.refl _ _) _)).mono ?_; rintro e w5 ⟨u50, u51, u52, o5, he, hb5, hk5, ho5⟩; obtain ⟨F50, n50, d50, rfl⟩ := hk5.form1; obtain ⟨F51, n51, d51, rfl⟩ := hk5.form2; obtain ⟨F52, n52, d52, rfl⟩ := hk5.form3; subst he; have hbA := (below_drewn (Below.refl w1.heap.size w1) _).trans hb5; obtain ⟨z0, z1, z2, z3⟩ := HFR.out w5 hbA; obtain ⟨k0, k1, k2, k3, k4⟩ := HLD.out w5 hbA)
  all_goals
    go_wp2
    go_ret
    exact ⟨_, rfl, (HEND.out _ _ _ _ _ _ _ _ _ _ hbA hk5).1, (HEND.out _ _ _ _ _ _ _ _ _ _ hbA hk5).2 _ _ ho5⟩
set_option maxHeartbeats 2000000 in
theorem drop10c (PO : Pol10Ok) (hc : w.heap[g]? = some (.cells cl10C CT10 (0, 0))) (h : S13 w PT13 b m x) (hps : m.ps = .sthree s) (ok : s.Ok) (k : Nat) (hk : k < 18446744073709551616) :
    Calls Tryz.prog 168 #[.pointer (some ⟨b, 0, none⟩), .int .u64 (k : Nat), .pointer (some ⟨g, 0, none⟩)] w fun e w' => e = .returned (.tuple #[]) ∧ Ps w b m x (.sthree (s.drop k)) w' := by
  have hb := h.lt
  have hpol := h.st.pol
  rw [hps] at hpol
  obtain ⟨hp, hc0, hst⟩ := hpol
  have HF := Lib.hid (fld10 w b)
  have hcl := (head_row hc).lt
  have HLD : Hid (∀ W : World, Below w.heap.size w W → W.cell? ⟨b, 7, none⟩ = some (.int .i64 (s.c : Nat)) ∧ W.cell? ⟨b, 8, none⟩ = some (.slice x.s10.F x.s10.n x.s10.c) ∧ W.cell? ⟨b, 9, none⟩ = some (.slice x.m10.F x.m10.n x.m10.c) ∧ W.cell? ⟨b, 10, none⟩ = some (.slice x.g10.F x.g10.n x.g10.c) ∧ W.cell? ⟨g, 4, none⟩ = some (.func (.func 81) #[] #[])) := Lib.hid (fun W hW => by
    obtain ⟨-, -, -, -, -, -, -, p7, p8, p9, p10, -⟩ := box_cells ((hW.block b hb).trans h.box)
    rw [hc0] at p7
    exact ⟨p7, p8, p9, p10, (head_row ((hW.block g hcl).trans hc)).cell (i := 4) (by simp)⟩)
  have HFR : Hid (∀ W : World, Below w.heap.size w W → W.frozen? ⟨b, 7, none⟩ = false ∧ W.frozen? ⟨b, 8, none⟩ = false ∧ W.frozen? ⟨b, 9, none⟩ = false ∧ W.frozen? ⟨b, 10, none⟩ = false) := Lib.hid (fun W hW => ⟨box_free ((hW.block b hb).trans h.box) 7, box_free ((hW.block b hb).trans h.box) 8, box_free ((hW.block b hb).trans h.box) 9, box_free ((hW.block b hb).trans h.box) 10⟩)
  have HEND : Hid (∀ W F0 n0 d0 F1 n1 d1 F2 n2 d2, Below w.heap.size w W → St10 W (s.drop k) (.slice F0 n0 d0) (.slice F1 n1 d1) (.slice F2 n2 d2) → Ps w b m x (.sthree (s.drop k)) ((((W.setCell ⟨b, 7, none⟩ (.int .i64 ((s.drop k).c : Nat))).setCell ⟨b, 8, none⟩ (.slice F0 n0 d0)).setCell ⟨b, 9, none⟩ (.slice F1 n1 d1)).setCell ⟨b, 10, none⟩ (.slice F2 n2 d2)) ∧ ∀ o out, KV W o out → KV ((((W.setCell ⟨b, 7, none⟩ (.int .i64 ((s.drop k).c : Nat))).setCell ⟨b, 8, none⟩ (.slice F0 n0 d0)).setCell ⟨b, 9, none⟩ (.slice F1 n1 d1)).setCell ⟨b, 10, none⟩ (.slice F2 n2 d2)) o out) := Lib.hid (fun W F0 n0 d0 F1 n1 d1 F2 n2 d2 hW hs => by
    obtain ⟨h1, h2⟩ := box_set10 ((h.below hW).box) ((s.drop k).c : Nat) F0 n0 d0 F1 n1 d1 F2 n2 d2
    have h3 := (h.below hW).st.only h2 (h.below hW).bx
    exact ⟨⟨(Only.of_below hW).trans h2 (by simp), { x with c10 := ((s.drop k).c : Nat), s10 := ⟨F0, n0, d0⟩, m10 := ⟨F1, n1, d1⟩, g10 := ⟨F2, n2, d2⟩ }, rfl, ⟨h1, h.ty, ⟨⟨hp, rfl, ⟨hs.g1.only h2 (h.below hW).bx, hs.g2.only h2 (h.below hW).bx, hs.g3.only h2 (h.below hW).bx⟩⟩, h3.prs, h3.hi, h3.mi, h3.ev⟩⟩⟩, fun o out ho => ho.only h2 (h.below hW).bx⟩)
  have c0 : w.cell? ⟨g, 0, none⟩ = some (.func (.func 77) #[] #[]) := (head_row hc).cell (i := 0) (by simp)
  obtain ⟨k0, k1, k2, k3, k4⟩ := HLD.out w (Below.refl _ _)
  have KT : Hid (∀ W, Below w.heap.size w W → Calls Tryz.prog 81 #[(.agg (l10C s.c (.slice x.s10.F x.s10.n x.s10.c) (.slice x.m10.F x.m10.n x.m10.c) (.slice x.g10.F x.g10.n x.g10.c))), .int .u64 (k : Nat)] W (P10 W (s.drop k))) := Lib.hid (fun W hW => PO.drop (hst.below hW) ok k hk)
  clear hst hc0 hp h hps hc
  go_enter Tryz.func168, Tryz.ntmps168
  go_wp2_with (go_at_call 77; refine HF.out.mono ?_; rintro e w1 ⟨rfl, rfl⟩)
  go_region_with (go_at_call 81; refine (KT.out _ (below_drewn (Below.refl _ _) _)).mono ?_; rintro e w5 ⟨u50, u51, u52, rfl, hb5, hk5⟩; obtain ⟨F50, n50, d50, rfl⟩ := hk5.form1; obtain ⟨F51, n51, d51, rfl⟩ := hk5.form2; obtain ⟨F52, n52, d52, rfl⟩ := hk5.form3; have hbA := (below_drewn (Below.refl w1.heap.size w1) _).trans hb5; obtain ⟨z0, z1, z2, z3⟩ := HFR.out w5 hbA; obtain ⟨k0, k1, k2, k3, k4⟩ := HLD.out w5 hbA)
  all_goals
    go_wp2
    go_end0
    exact ⟨rfl, (HEND.out _ _ _ _ _ _ _ _ _ _ hbA hk5).1⟩
set_option maxHeartbeats 2000000 in
theorem resize10c (PO : Pol10Ok) (hc : w.heap[g]? = some (.cells cl10C CT10 (0, 0))) (h : S13 w PT13 b m x) (hps : m.ps = .sthree s) (ok : s.Ok) (n : Int) (hn1 : -9223372036854775808 ≤ n) (hn2 : n ≤ 9223372036854775807) :
    Calls Tryz.prog 163 #[.pointer (some ⟨b, 0, none⟩), .int .i64 n, .pointer (some ⟨g, 0, none⟩)] w fun e w' => ∃ v, e = .returned v ∧ Ps w b m x (.sthree (s.resize n)) w' ∧ KV w' v (s.resizeOut n) := by
  have hb := h.lt
  have hpol := h.st.pol
  rw [hps] at hpol
  obtain ⟨hp, hc0, hst⟩ := hpol
  have HF := Lib.hid (fld10 w b)
  have hcl := (head_row hc).lt
  have HLD : Hid (∀ W : World, Below w.heap.size w W → W.cell? ⟨b, 7, none⟩ = some (.int .i64 (s.c : Nat)) ∧ W.cell? ⟨b, 8, none⟩ = some (.slice x.s10.F x.s10.n x.s10.c) ∧ W.cell? ⟨b, 9, none⟩ = some (.slice x.m10.F x.m10.n x.m10.c) ∧ W.cell? ⟨b, 10, none⟩ = some (.slice x.g10.F x.g10.n x.g10.c) ∧ W.cell? ⟨g, 5, none⟩ = some (.func (.func 82) #[] #[])) := Lib.hid (fun W hW => by
    obtain ⟨-, -, -, -, -, -, -, p7, p8, p9, p10, -⟩ := box_cells ((hW.block b hb).trans h.box)
    rw [hc0] at p7
    exact ⟨p7, p8, p9, p10, (head_row ((hW.block g hcl).trans hc)).cell (i := 5) (by simp)⟩)
  have HFR : Hid (∀ W : World, Below w.heap.size w W → W.frozen? ⟨b, 7, none⟩ = false ∧ W.frozen? ⟨b, 8, none⟩ = false ∧ W.frozen? ⟨b, 9, none⟩ = false ∧ W.frozen? ⟨b, 10, none⟩ = false) := Lib.hid (fun W hW => ⟨box_free ((hW.block b hb).trans h.box) 7, box_free ((hW.block b hb).trans h.box) 8, box_free ((hW.block b hb).trans h.box) 9, box_free ((hW.block b hb).trans h.box) 10⟩)
  have HEND : Hid (∀ W F0 n0 d0 F1 n1 d1 F2 n2 d2, Below w.heap.size w W → St10 W (s.resize n) (.slice F0 n0 d0) (.slice F1 n1 d1) (.slice F2 n2 d2) → Ps w b m x (.sthree (s.resize n)) ((((W.setCell ⟨b, 7, none⟩ (.int .i64 ((s.resize n).c : Nat))).setCell ⟨b, 8, none⟩ (.slice F0 n0 d0)).setCell ⟨b, 9, none⟩ (.slice F1 n1 d1)).setCell ⟨b, 10, none⟩ (.slice F2 n2 d2)) ∧ ∀ o out, KV W o out → KV ((((W.setCell ⟨b, 7, none⟩ (.int .i64 ((s.resize n).c : Nat))).setCell ⟨b, 8, none⟩ (.slice F0 n0 d0)).setCell ⟨b, 9, none⟩ (.slice F1 n1 d1)).setCell ⟨b, 10, none⟩ (.slice F2 n2 d2)) o out) := Lib.hid (fun W F0 n0 d0 F1 n1 d1 F2 n2 d2 hW hs => by
    obtain ⟨h1, h2⟩ := box_set10 ((h.below hW).box) ((s.resize n).c : Nat) F0 n0 d0 F1 n1 d1 F2 n2 d2
    have h3 := (h.below hW).st.only h2 (h.below hW).bx
    exact ⟨⟨(Only.of_below hW).trans h2 (by simp), { x with c10 := ((s.resize n).c : Nat), s10 := ⟨F0, n0, d0⟩, m10 := ⟨F1, n1, d1⟩, g10 := ⟨F2, n2, d2⟩ }, rfl, ⟨h1, h.ty, ⟨⟨hp, rfl, ⟨hs.g1.only h2 (h.below hW).bx, hs.g2.only h2 (h.below hW).bx, hs.g3.only h2 (h.below hW).bx⟩⟩, h3.prs, h3.hi, h3.mi, h3.ev⟩⟩⟩, fun o out ho => ho.only h2 (h.below hW).bx⟩)
  have c0 : w.cell? ⟨g, 0, none⟩ = some (.func (.func 77) #[] #[]) := (head_row hc).cell (i := 0) (by simp)
  obtain ⟨k0, k1, k2, k3, k4⟩ := HLD.out w (Below.refl _ _)
  have KT : Hid (∀ W, Below w.heap.size w W → Calls Tryz.prog 82 #[(.agg (l10C s.c (.slice x.s10.F x.s10.n x.s10.c) (.slice x.m10.F x.m10.n x.m10.c) (.slice x.g10.F x.g10.n x.g10.c))), .int .i64 n] W (P10o W (s.resize n) (s.resizeOut n))) := Lib.hid (fun W hW => PO.resize (hst.below hW) ok n hn1 hn2)
  clear hst hc0 hp h hps hc
  go_enter Tryz.func163, Tryz.ntmps163
  go_wp2_with (go_at_call 77; refine HF.out.mono ?_; rintro e w1 ⟨rfl, rfl⟩)
  go_region_with (go_at_call 82; refine (KT.out _ (below_drewn (Below.refl _ _) _)).mono ?_; rintro e w5 ⟨u50, u51, u52, o5, he, hb5, hk5, ho5⟩; obtain ⟨F50, n50, d50, rfl⟩ := hk5.form1; obtain ⟨F51, n51, d51, rfl⟩ := hk5.form2; obtain ⟨F52, n52, d52, rfl⟩ := hk5.form3; subst he; have hbA := (below_drewn (Below.refl w1.heap.size w1) _).trans hb5; obtain ⟨z0, z1, z2, z3⟩ := HFR.out w5 hbA; obtain ⟨k0, k1, k2, k3, k4⟩ := HLD.out w5 hbA)
  all_goals
    go_wp2
    go_ret
    exact ⟨_, rfl, (HEND.out _ _ _ _ _ _ _ _ _ _ hbA hk5).1, (HEND.out _ _ _ _ _ _ _ _ _ _ hbA hk5).2 _ _ ho5⟩
end
end Go.Proofs.YtcpggonengkgiaaGreatDoor
