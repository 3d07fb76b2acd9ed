/- Words and walks: McU8 McVA9 McVB9. -/
import Derived.Test.YtcpggonengkgiaaGreatDoorG32
import Derived.Test.YtcpggonengkgiaaGreatDoorG35
import Derived.Test.YtcpggonengkgiaaGreatDoorG36
import Derived.Test.YtcpggonengkgiaaGreatDoorG6
import Derived.Laws.EntriesVeiled
import Derived.Deep.RegionWith
import Derived.Deep.RegionHeld3
/- The machine's calls of lru, packed. -/
namespace Go.Proofs.YtcpggonengkgiaaGreatDoor
open Go Go.RowKit Go.Deep
set_option maxRecDepth 8000
abbrev pf8 (g g2 : Nat) : PolF := ⟨134, 135, 136, 137, 138, 133, 139, 140, 141, 142, #[.pointer (some ⟨g, 0, none⟩)], #[.pointer (some ⟨g2, 0, none⟩), .pointer (some ⟨g, 0, none⟩)], #[.pointer (some ⟨g, 0, none⟩)], #[.pointer (some ⟨g, 0, none⟩)], #[.pointer (some ⟨g, 0, none⟩)], #[.pointer (some ⟨g, 0, none⟩)], #[.pointer (some ⟨g, 0, none⟩)], #[.pointer (some ⟨g, 0, none⟩)], #[.pointer (some ⟨g, 0, none⟩)], #[.pointer (some ⟨g, 0, none⟩)]⟩
def Iv8 (g g2 : Nat) (W : World) : Prop := W.heap[g]? = some (.cells cl8C CT8 (0, 0)) ∧ W.heap[g2]? = some (.cells #[.func (.func 133) #[] #[.pointer (some ⟨g, 0, none⟩)]] RT13_8 (0, 0))
theorem is8 {m : M13} (h : m.ps.tag = 1) : ∃ s, m.ps = .lru s := by
  cases hp : m.ps with
  | lru s => exact ⟨s, rfl⟩
  | twoq s => rw [hp] at h; cases h
  | sthree s => rw [hp] at h; cases h
  | arc s => rw [hp] at h; cases h
  | lirs s => rw [hp] at h; cases h
theorem polv8 (PO : Pol8Ok) (g g2 : Nat) : PolV (pf8 g g2) 1 [g, g2] (Iv8 g g2) where
  e0 := fun args W => by kernel_rfl
  e1 := fun args W => by kernel_rfl
  e2 := fun args W => by kernel_rfl
  e3 := fun args W => by kernel_rfl
  e4 := fun args W => by kernel_rfl
  e5 := fun args W => by kernel_rfl
  e6 := fun args W => by kernel_rfl
  e7 := fun args W => by kernel_rfl
  e8 := fun args W => by kernel_rfl
  e9 := fun args W => by kernel_rfl
  typ := fun W h k hk => by
    simp only [List.mem_cons, List.not_mem_nil, or_false] at hk
    rcases hk with rfl | rfl
    · exact ⟨_, _, h.1, by decide, by decide⟩
    · exact ⟨_, _, h.2, by decide, by decide⟩
  stay := fun W W' h hk => ⟨(hk g (by simp)).trans h.1, (hk g2 (by simp)).trans h.2⟩
  own := fun {W b m x} hi hs ht ok => by
    obtain ⟨s, hps⟩ := is8 ht
    have ok2 : s.Ok := by
      have h := ok
      rw [hps] at h
      exact h
    rw [hps]
    exact own8c PO hi.1 hs hps ok2 hi.2
  touch := fun {W b m x} hi hs ht ok k hk => by
    obtain ⟨s, hps⟩ := is8 ht
    have ok2 : s.Ok := by
      have h := ok
      rw [hps] at h
      exact h
    rw [hps]
    exact touch8c PO hi.1 hs hps ok2 k hk
  adm := fun {W b m x} hi hs ht ok k hk => by
    obtain ⟨s, hps⟩ := is8 ht
    have ok2 : s.Ok := by
      have h := ok
      rw [hps] at h
      exact h
    rw [hps]
    exact adm8c PO hi.1 hs hps ok2 k hk
  drop := fun {W b m x} hi hs ht ok k hk => by
    obtain ⟨s, hps⟩ := is8 ht
    have ok2 : s.Ok := by
      have h := ok
      rw [hps] at h
      exact h
    rw [hps]
    exact drop8c PO hi.1 hs hps ok2 k hk
  rsz := fun {W b m x} hi hs ht ok n h1 h2 => by
    obtain ⟨s, hps⟩ := is8 ht
    have ok2 : s.Ok := by
      have h := ok
      rw [hps] at h
      exact h
    rw [hps]
    exact resize8c PO hi.1 hs hps ok2 n h1 h2
  has := fun {W b m x} hi hs ht ok k hk => by
    obtain ⟨s, hps⟩ := is8 ht
    have ok2 : s.Ok := by
      have h := ok
      rw [hps] at h
      exact h
    rw [hps]
    exact has8c PO hi.1 hs hps ok2 k hk
  keys := fun {W b m x} hi hs ht ok => by
    obtain ⟨s, hps⟩ := is8 ht
    have ok2 : s.Ok := by
      have h := ok
      rw [hps] at h
      exact h
    rw [hps]
    exact keys8c PO hi.1 hs hps ok2
  gho := fun {W b m x} hi hs ht ok => by
    obtain ⟨s, hps⟩ := is8 ht
    have ok2 : s.Ok := by
      have h := ok
      rw [hps] at h
      exact h
    rw [hps]
    exact ghosts8c PO hi.1 hs hps ok2
  cap := fun {W b m x} hi hs ht ok => by
    obtain ⟨s, hps⟩ := is8 ht
    rw [hps]
    exact caps8c hi.1 hs hps
theorem pols8 (PO : Pol8Ok) (g g2 : Nat) : PolS (pf8 g g2) 1 (Iv8 g g2) := ⟨fun {_ _ _} hi hb hp n h1 h2 => start8c PO hi.1 hb hp n h1 h2⟩
set_option maxHeartbeats 2000000 in
theorem over8_walk (w : World) : Calls Tryz.prog 54 #[.agg cl8C] w fun e w' => e = .returned (.agg (pf8 w.heap.size (w.heap.size + 1 + 1)).C) ∧ Below w.heap.size w w' ∧ Iv8 w.heap.size (w.heap.size + 1 + 1) w' := by
  have hmf : ∀ (fn : Fn) (first cap : Array Value) (w : World), (Instr.makeFunc fn first cap).run Tryz.prog w = .ok (.func fn first cap) w := fun _ _ _ _ => rfl
  go_enter Tryz.func54, Tryz.ntmps54
  go_wp2_with fail
  refine bodyPost_ret (v := .agg (pf8 w.heap.size (w.heap.size + 1 + 1)).C) (by simp [results, Tryz.results54, go_sem]) rfl ⟨rfl, (low_two w _ _).alloc (by simp; omega) _, ?_, ?_⟩
  · rw [Below.heap_alloc _ _ _ (by simp; omega), Below.heap_alloc _ _ _ (by simp)]
    exact heap_alloc_new w _
  · have := heap_alloc_new ((w.alloc (.cells cl8C CT8)).alloc (.cells (pf8 w.heap.size (w.heap.size + 1 + 1)).C PolT)) (.cells #[.func (.func 133) #[] #[.pointer (some ⟨w.heap.size, 0, none⟩)]] RT13_8)
    simpa using this
set_option maxHeartbeats 2000000 in
theorem policyOf8_walk (w : World) : Calls Tryz.prog 28 #[.int .i64 1] w fun e w' => e = .returned (.tuple #[.agg (pf8 (w.heap.size + 1) (w.heap.size + 1 + 1 + 1)).C, .bool true]) ∧ Below w.heap.size w w' ∧ Iv8 (w.heap.size + 1) (w.heap.size + 1 + 1 + 1) w' := by
  have HO := Lib.hid (over8_walk (w.alloc (.cells #[.nilFunc, .nilFunc, .nilFunc, .nilFunc, .nilFunc, .nilFunc, .nilFunc, .nilFunc, .nilFunc, .nilFunc] PolT)))
  have hr := heap_alloc_new w (.cells #[.nilFunc, .nilFunc, .nilFunc, .nilFunc, .nilFunc, .nilFunc, .nilFunc, .nilFunc, .nilFunc, .nilFunc] PolT)
  have HR := Lib.hid hr
  have HL := Lib.hid (low_one w (.cells #[.nilFunc, .nilFunc, .nilFunc, .nilFunc, .nilFunc, .nilFunc, .nilFunc, .nilFunc, .nilFunc, .nilFunc] PolT))
  clear hr
  go_enter Tryz.func28, Tryz.ntmps28
  go_wp2_with fail
  refine HO.out.mono ?_
  rintro e w2 ⟨rfl, hb2, hi2⟩
  simp only [World.size_alloc] at hi2
  have hr2 := (hb2.block _ (head_row HR.out).lt).trans HR.out
  have HEND : Hid (∀ W, Only [w.heap.size] w2 W → Below w.heap.size w W ∧ Iv8 (w.heap.size + 1) (w.heap.size + 1 + 1 + 1) W) := Lib.hid (fun W ho => by
    have h3 := hb2.size
    simp only [World.size_alloc] at h3
    refine ⟨(HL.out.trans (hb2.mono HL.out.size)).trans (ho.below (by simp) (by omega)), (ho.block _ (head_row hi2.1).lt (by simp)).trans hi2.1, (ho.block _ (head_row hi2.2).lt (by simp; omega)).trans hi2.2⟩)
  obtain ⟨⟨z0, z1, z2, z3, z4, z5, z6, z7, z8, z9⟩, zf⟩ := c10_at hr2
  have zf0 := zf 0
  have zf1 := zf 1
  have zf2 := zf 2
  have zf3 := zf 3
  have zf4 := zf 4
  have zf5 := zf 5
  have zf6 := zf 6
  have zf7 := zf 7
  have zf8 := zf 8
  have zf9 := zf 9
  clear hb2 hi2 hr2 HO HR HL zf
  simp only [World.size_alloc]
  go_wp2_with fail
  refine bodyPost_ret (v := .tuple #[.agg (pf8 (w.heap.size + 1) (w.heap.size + 1 + 1 + 1)).C, .bool true]) (by simp [results, Tryz.results28, go_sem, z0, z1, z2, z3, z4, z5, z6, z7, z8, z9]) rfl ⟨rfl, HEND.out _ ((((((((((((Only.refl _ _).setCell (by simp) _).setCell (by simp) _).setCell (by simp) _).setCell (by simp) _).setCell (by simp) _).setCell (by simp) _).setCell (by simp) _).setCell (by simp) _).setCell (by simp) _).setCell (by simp) _))⟩
end Go.Proofs.YtcpggonengkgiaaGreatDoor
/- The machine's calls of twoq. -/
namespace Go.Proofs.YtcpggonengkgiaaGreatDoor
open Go Go.RowKit Go.Deep
set_option maxRecDepth 8000
abbrev CT9 : TypeId := 152
abbrev RT13_9 : TypeId := 93
abbrev cl9C : Array Value := #[.func (.func 66) #[] #[], .func (.func 67) #[] #[], .func (.func 68) #[] #[], .func (.func 69) #[] #[], .func (.func 70) #[] #[], .func (.func 71) #[] #[], .func (.func 72) #[] #[], .func (.func 73) #[] #[], .func (.func 74) #[] #[], .func (.func 75) #[] #[]]
section
variable {w : World} {b g : Nat} {m : M13} {x : V13} {s : L9}
theorem fld9 (w : World) (b : Nat) : Calls Tryz.prog 66 #[.pointer (some ⟨b, 0, none⟩)] w fun e w' => e = .returned (.pointer (some ⟨b, 3, none⟩)) ∧ w' = w := by
  go_enter Tryz.func66, Tryz.ntmps66
  go_wp2
  go_ret
  exact ⟨rfl, rfl⟩
theorem cap9 (w : World) (s : L9) (u1 u2 u3 : Value) (hf : (∃ F n d, u1 = .slice F n d) ∧ (∃ F n d, u2 = .slice F n d) ∧ (∃ F n d, u3 = .slice F n d)) : Calls Tryz.prog 75 #[.agg (l9C s.c u1 u2 u3)] w fun e w' => e = .returned (.int .i64 (s.c : Nat)) ∧ Below w.heap.size w w' := by
  obtain ⟨⟨F0, n0, d0, rfl⟩, ⟨F1, n1, d1, rfl⟩, ⟨F2, n2, d2, rfl⟩⟩ := hf
  go_enter Tryz.func75, Tryz.ntmps75
  go_wp2
  go_ret
  exact ⟨rfl, low_one w _⟩
set_option maxHeartbeats 2000000 in
theorem touch9c (PO : Pol9Ok) (hc : w.heap[g]? = some (.cells cl9C CT9 (0, 0))) (h : S13 w PT13 b m x) (hps : m.ps = .twoq s) (ok : s.Ok) (k : Nat) (hk : k < 18446744073709551616) :
    Calls Tryz.prog 152 #[.pointer (some ⟨b, 0, none⟩), .int .u64 (k : Nat), .pointer (some ⟨g, 0, none⟩)] w fun e w' => e = .returned (.tuple #[]) ∧ Ps w b m x (.twoq (s.touch k)) w' := by
  have hb := h.lt
  have hpol := h.st.pol
  rw [hps] at hpol
  obtain ⟨hp, hc0, hst⟩ := hpol
  have HF := Lib.hid (fld9 w b)
  have hcl := (head_row hc).lt
  have HLD : Hid (∀ W : World, Below w.heap.size w W → W.cell? ⟨b, 3, none⟩ = some (.int .i64 (s.c : Nat)) ∧ W.cell? ⟨b, 4, none⟩ = some (.slice x.i9.F x.i9.n x.i9.c) ∧ W.cell? ⟨b, 5, none⟩ = some (.slice x.o9.F x.o9.n x.o9.c) ∧ W.cell? ⟨b, 6, none⟩ = some (.slice x.m9.F x.m9.n x.m9.c) ∧ W.cell? ⟨g, 2, none⟩ = some (.func (.func 68) #[] #[])) := Lib.hid (fun W hW => by
    obtain ⟨-, -, -, p3, p4, p5, p6, -⟩ := box_cells ((hW.block b hb).trans h.box)
    rw [hc0] at p3
    exact ⟨p3, p4, p5, p6, (head_row ((hW.block g hcl).trans hc)).cell (i := 2) (by simp)⟩)
  have HFR : Hid (∀ W : World, Below w.heap.size w W → W.frozen? ⟨b, 3, none⟩ = false ∧ W.frozen? ⟨b, 4, none⟩ = false ∧ W.frozen? ⟨b, 5, none⟩ = false ∧ W.frozen? ⟨b, 6, none⟩ = false) := Lib.hid (fun W hW => ⟨box_free ((hW.block b hb).trans h.box) 3, box_free ((hW.block b hb).trans h.box) 4, box_free ((hW.block b hb).trans h.box) 5, box_free ((hW.block b hb).trans h.box) 6⟩)
  have HEND : Hid (∀ W F0 n0 d0 F1 n1 d1 F2 n2 d2, Below w.heap.size w W → St9 W (s.touch k) (.slice F0 n0 d0) (.slice F1 n1 d1) (.slice F2 n2 d2) → Ps w b m x (.twoq (s.touch k)) ((((W.setCell ⟨b, 3, none⟩ (.int .i64 ((s.touch k).c : Nat))).setCell ⟨b, 4, none⟩ (.slice F0 n0 d0)).setCell ⟨b, 5, none⟩ (.slice F1 n1 d1)).setCell ⟨b, 6, none⟩ (.slice F2 n2 d2)) ∧ ∀ o out, KV W o out → KV ((((W.setCell ⟨b, 3, none⟩ (.int .i64 ((s.touch k).c : Nat))).setCell ⟨b, 4, none⟩ (.slice F0 n0 d0)).setCell ⟨b, 5, none⟩ (.slice F1 n1 d1)).setCell ⟨b, 6, none⟩ (.slice F2 n2 d2)) o out) := Lib.hid (fun W F0 n0 d0 F1 n1 d1 F2 n2 d2 hW hs => by
    obtain ⟨h1, h2⟩ := box_set9 ((h.below hW).box) ((s.touch k).c : Nat) F0 n0 d0 F1 n1 d1 F2 n2 d2
    have h3 := (h.below hW).st.only h2 (h.below hW).bx
    exact ⟨⟨(Only.of_below hW).trans h2 (by simp), { x with c9 := ((s.touch k).c : Nat), i9 := ⟨F0, n0, d0⟩, o9 := ⟨F1, n1, d1⟩, m9 := ⟨F2, n2, d2⟩ }, rfl, ⟨h1, h.ty, ⟨⟨hp, rfl, ⟨hs.g1.only h2 (h.below hW).bx, hs.g2.only h2 (h.below hW).bx, hs.g3.only h2 (h.below hW).bx⟩⟩, h3.prs, h3.hi, h3.mi, h3.ev⟩⟩⟩, fun o out ho => ho.only h2 (h.below hW).bx⟩)
  have c0 : w.cell? ⟨g, 0, none⟩ = some (.func (.func 66) #[] #[]) := (head_row hc).cell (i := 0) (by simp)
  obtain ⟨k0, k1, k2, k3, k4⟩ := HLD.out w (Below.refl _ _)
  have KT : Hid (∀ W, Below w.heap.size w W → Calls Tryz.prog 68 #[(.agg (l9C s.c (.slice x.i9.F x.i9.n x.i9.c) (.slice x.o9.F x.o9.n x.o9.c) (.slice x.m9.F x.m9.n x.m9.c))), .int .u64 (k : Nat)] W (P9 W (s.touch k))) := Lib.hid (fun W hW => PO.touch (hst.below hW) ok k hk)
  clear hst hc0 hp h hps hc
  go_enter Tryz.func152, Tryz.ntmps152
  go_wp2_with (go_at_call 66; refine HF.out.mono ?_; rintro e w1 ⟨rfl, rfl⟩)
  go_region_with (go_at_call 68; refine (KT.out _ (below_drewn (Below.refl _ _) _)).mono ?_; rintro e w5 ⟨u50, u51, u52, rfl, hb5, hk5⟩; obtain ⟨F50, n50, d50, rfl⟩ := hk5.form1; obtain ⟨F51, n51, d51, rfl⟩ := hk5.form2; obtain ⟨F52, n52, d52, rfl⟩ := hk5.form3; have hbA := (below_drewn (Below.refl w1.heap.size w1) _).trans hb5; obtain ⟨z0, z1, z2, z3⟩ := HFR.out w5 hbA; obtain ⟨k0, k1, k2, k3, k4⟩ := HLD.out w5 hbA)
  all_goals
    go_wp2
    go_end0
    exact ⟨rfl, (HEND.out _ _ _ _ _ _ _ _ _ _ hbA hk5).1⟩
set_option maxHeartbeats 2000000 in
theorem adm9c (PO : Pol9Ok) (hc : w.heap[g]? = some (.cells cl9C CT9 (0, 0))) (h : S13 w PT13 b m x) (hps : m.ps = .twoq s) (ok : s.Ok) (k : Nat) (hk : k < 18446744073709551616) :
    Calls Tryz.prog 153 #[.pointer (some ⟨b, 0, none⟩), .int .u64 (k : Nat), .pointer (some ⟨g, 0, none⟩)] w fun e w' => ∃ v, e = .returned v ∧ Ps w b m x (.twoq (s.adm k)) w' ∧ KV w' v (s.admitOut k) := by
  have hb := h.lt
  have hpol := h.st.pol
  rw [hps] at hpol
  obtain ⟨hp, hc0, hst⟩ := hpol
  have HF := Lib.hid (fld9 w b)
  have hcl := (head_row hc).lt
  have HLD : Hid (∀ W : World, Below w.heap.size w W → W.cell? ⟨b, 3, none⟩ = some (.int .i64 (s.c : Nat)) ∧ W.cell? ⟨b, 4, none⟩ = some (.slice x.i9.F x.i9.n x.i9.c) ∧ W.cell? ⟨b, 5, none⟩ = some (.slice x.o9.F x.o9.n x.o9.c) ∧ W.cell? ⟨b, 6, none⟩ = some (.slice x.m9.F x.m9.n x.m9.c) ∧ W.cell? ⟨g, 3, none⟩ = some (.func (.func 69) #[] #[])) := Lib.hid (fun W hW => by
    obtain ⟨-, -, -, p3, p4, p5, p6, -⟩ := box_cells ((hW.block b hb).trans h.box)
    rw [hc0] at p3
    exact ⟨p3, p4, p5, p6, (head_row ((hW.block g hcl).trans hc)).cell (i := 3) (by simp)⟩)
  have HFR : Hid (∀ W : World, Below w.heap.size w W → W.frozen? ⟨b, 3, none⟩ = false ∧ W.frozen? ⟨b, 4, none⟩ = false ∧ W.frozen? ⟨b, 5, none⟩ = false ∧ W.frozen? ⟨b, 6, none⟩ = false) := Lib.hid (fun W hW => ⟨box_free ((hW.block b hb).trans h.box) 3, box_free ((hW.block b hb).trans h.box) 4, box_free ((hW.block b hb).trans h.box) 5, box_free ((hW.block b hb).trans h.box) 6⟩)
  have HEND : Hid (∀ W F0 n0 d0 F1 n1 d1 F2 n2 d2, Below w.heap.size w W → St9 W (s.adm k) (.slice F0 n0 d0) (.slice F1 n1 d1) (.slice F2 n2 d2) → Ps w b m x (.twoq (s.adm k)) ((((W.setCell ⟨b, 3, none⟩ (.int .i64 ((s.adm k).c : Nat))).setCell ⟨b, 4, none⟩ (.slice F0 n0 d0)).setCell ⟨b, 5, none⟩ (.slice F1 n1 d1)).setCell ⟨b, 6, none⟩ (.slice F2 n2 d2)) ∧ ∀ o out, KV W o out → KV ((((W.setCell ⟨b, 3, none⟩ (.int .i64 ((s.adm k).c : Nat))).setCell ⟨b, 4, none⟩ (.slice F0 n0 d0)).setCell ⟨b, 5, none⟩ (.slice F1 n1 d1)).setCell ⟨b, 6, none⟩ (.slice F2 n2 d2)) o out) := Lib.hid (fun W F0 n0 d0 F1 n1 d1 F2 n2 d2 hW hs => by
    obtain ⟨h1, h2⟩ := box_set9 ((h.below hW).box) ((s.adm k).c : Nat) F0 n0 d0 F1 n1 d1 F2 n2 d2
    have h3 := (h.below hW).st.only h2 (h.below hW).bx
    exact ⟨⟨(Only.of_below hW).trans h2 (by simp), { x with c9 := ((s.adm k).c : Nat), i9 := ⟨F0, n0, d0⟩, o9 := ⟨F1, n1, d1⟩, m9 := ⟨F2, n2, d2⟩ }, rfl, ⟨h1, h.ty, ⟨⟨hp, rfl, ⟨hs.g1.only h2 (h.below hW).bx, hs.g2.only h2 (h.below hW).bx, hs.g3.only h2 (h.below hW).bx⟩⟩, h3.prs, h3.hi, h3.mi, h3.ev⟩⟩⟩, fun o out ho => ho.only h2 (h.below hW).bx⟩)
  have c0 : w.cell? ⟨g, 0, none⟩ = some (.func (.func 66) #[] #[]) := (head_row hc).cell (i := 0) (by simp)
  obtain ⟨k0, k1, k2, k3, k4⟩ := HLD.out w (Below.refl _ _)
  have KT : Hid (∀ W, Below w.heap.size w W → Calls Tryz.prog 69 #[(.agg (l9C s.c (.slice x.i9.F x.i9.n x.i9.c) (.slice x.o9.F x.o9.n x.o9.c) (.slice x.m9.F x.m9.n x.m9.c))), .int .u64 (k : Nat)] W (P9o W (s.adm k) (s.admitOut k))) := Lib.hid (fun W hW => PO.adm (hst.below hW) ok k hk)
  clear hst hc0 hp h hps hc
  go_enter Tryz.func153, Tryz.ntmps153
  go_wp2_with (go_at_call 66; refine HF.out.mono ?_; rintro e w1 ⟨rfl, rfl⟩)
  go_region_with (go_at_call 69; refine (KT.out _ (below_drewn (Below.refl _ _) _)).mono ?_; rintro e w5 ⟨u50, u51, u52, o5, he, hb5, hk5, ho5⟩; obtain ⟨F50, n50, d50, rfl⟩ := hk5.form1; obtain ⟨F51, n51, d51, rfl⟩ := hk5.form2; obtain ⟨F52, n52, d52, rfl⟩ := hk5.form3; subst he; have hbA := (below_drewn (Below.refl w1.heap.size w1) _).trans hb5; obtain ⟨z0, z1, z2, z3⟩ := HFR.out w5 hbA; obtain ⟨k0, k1, k2, k3, k4⟩ := HLD.out w5 hbA)
  all_goals
    go_wp2
    go_ret
    exact ⟨_, rfl, (HEND.out _ _ _ _ _ _ _ _ _ _ hbA hk5).1, (HEND.out _ _ _ _ _ _ _ _ _ _ hbA hk5).2 _ _ ho5⟩
set_option maxHeartbeats 2000000 in
theorem drop9c (PO : Pol9Ok) (hc : w.heap[g]? = some (.cells cl9C CT9 (0, 0))) (h : S13 w PT13 b m x) (hps : m.ps = .twoq s) (ok : s.Ok) (k : Nat) (hk : k < 18446744073709551616) :
    Calls Tryz.prog 154 #[.pointer (some ⟨b, 0, none⟩), .int .u64 (k : Nat), .pointer (some ⟨g, 0, none⟩)] w fun e w' => e = .returned (.tuple #[]) ∧ Ps w b m x (.twoq (s.drop k)) w' := by
  have hb := h.lt
  have hpol := h.st.pol
  rw [hps] at hpol
  obtain ⟨hp, hc0, hst⟩ := hpol
  have HF := Lib.hid (fld9 w b)
  have hcl := (head_row hc).lt
  have HLD : Hid (∀ W : World, Below w.heap.size w W → W.cell? ⟨b, 3, none⟩ = some (.int .i64 (s.c : Nat)) ∧ W.cell? ⟨b, 4, none⟩ = some (.slice x.i9.F x.i9.n x.i9.c) ∧ W.cell? ⟨b, 5, none⟩ = some (.slice x.o9.F x.o9.n x.o9.c) ∧ W.cell? ⟨b, 6, none⟩ = some (.slice x.m9.F x.m9.n x.m9.c) ∧ W.cell? ⟨g, 4, none⟩ = some (.func (.func 70) #[] #[])) := Lib.hid (fun W hW => by
    obtain ⟨-, -, -, p3, p4, p5, p6, -⟩ := box_cells ((hW.block b hb).trans h.box)
    rw [hc0] at p3
    exact ⟨p3, p4, p5, p6, (head_row ((hW.block g hcl).trans hc)).cell (i := 4) (by simp)⟩)
  have HFR : Hid (∀ W : World, Below w.heap.size w W → W.frozen? ⟨b, 3, none⟩ = false ∧ W.frozen? ⟨b, 4, none⟩ = false ∧ W.frozen? ⟨b, 5, none⟩ = false ∧ W.frozen? ⟨b, 6, none⟩ = false) := Lib.hid (fun W hW => ⟨box_free ((hW.block b hb).trans h.box) 3, box_free ((hW.block b hb).trans h.box) 4, box_free ((hW.block b hb).trans h.box) 5, box_free ((hW.block b hb).trans h.box) 6⟩)
  have HEND : Hid (∀ W F0 n0 d0 F1 n1 d1 F2 n2 d2, Below w.heap.size w W → St9 W (s.drop k) (.slice F0 n0 d0) (.slice F1 n1 d1) (.slice F2 n2 d2) → Ps w b m x (.twoq (s.drop k)) ((((W.setCell ⟨b, 3, none⟩ (.int .i64 ((s.drop k).c : Nat))).setCell ⟨b, 4, none⟩ (.slice F0 n0 d0)).setCell ⟨b, 5, none⟩ (.slice F1 n1 d1)).setCell ⟨b, 6, none⟩ (.slice F2 n2 d2)) ∧ ∀ o out, KV W o out → KV ((((W.setCell ⟨b, 3, none⟩ (.int .i64 ((s.drop k).c : Nat))).setCell ⟨b, 4, none⟩ (.slice F0 n0 d0)).setCell ⟨b, 5, none⟩ (.slice F1 n1 d1)).setCell ⟨b, 6, none⟩ (.slice F2 n2 d2)) o out) := Lib.hid (fun W F0 n0 d0 F1 n1 d1 F2 n2 d2 hW hs => by
    obtain ⟨h1, h2⟩ := box_set9 ((h.below hW).box) ((s.drop k).c : Nat) F0 n0 d0 F1 n1 d1 F2 n2 d2
    have h3 := (h.below hW).st.only h2 (h.below hW).bx
    exact ⟨⟨(Only.of_below hW).trans h2 (by simp), { x with c9 := ((s.drop k).c : Nat), i9 := ⟨F0, n0, d0⟩, o9 := ⟨F1, n1, d1⟩, m9 := ⟨F2, n2, d2⟩ }, rfl, ⟨h1, h.ty, ⟨⟨hp, rfl, ⟨hs.g1.only h2 (h.below hW).bx, hs.g2.only h2 (h.below hW).bx, hs.g3.only h2 (h.below hW).bx⟩⟩, h3.prs, h3.hi, h3.mi, h3.ev⟩⟩⟩, fun o out ho => ho.only h2 (h.below hW).bx⟩)
  have c0 : w.cell? ⟨g, 0, none⟩ = some (.func (.func 66) #[] #[]) := (head_row hc).cell (i := 0) (by simp)
  obtain ⟨k0, k1, k2, k3, k4⟩ := HLD.out w (Below.refl _ _)
  have KT : Hid (∀ W, Below w.heap.size w W → Calls Tryz.prog 70 #[(.agg (l9C s.c (.slice x.i9.F x.i9.n x.i9.c) (.slice x.o9.F x.o9.n x.o9.c) (.slice x.m9.F x.m9.n x.m9.c))), .int .u64 (k : Nat)] W (P9 W (s.drop k))) := Lib.hid (fun W hW => PO.drop (hst.below hW) ok k hk)
  clear hst hc0 hp h hps hc
  go_enter Tryz.func154, Tryz.ntmps154
  go_wp2_with (go_at_call 66; refine HF.out.mono ?_; rintro e w1 ⟨rfl, rfl⟩)
  go_region_with (go_at_call 70; refine (KT.out _ (below_drewn (Below.refl _ _) _)).mono ?_; rintro e w5 ⟨u50, u51, u52, rfl, hb5, hk5⟩; obtain ⟨F50, n50, d50, rfl⟩ := hk5.form1; obtain ⟨F51, n51, d51, rfl⟩ := hk5.form2; obtain ⟨F52, n52, d52, rfl⟩ := hk5.form3; have hbA := (below_drewn (Below.refl w1.heap.size w1) _).trans hb5; obtain ⟨z0, z1, z2, z3⟩ := HFR.out w5 hbA; obtain ⟨k0, k1, k2, k3, k4⟩ := HLD.out w5 hbA)
  all_goals
    go_wp2
    go_end0
    exact ⟨rfl, (HEND.out _ _ _ _ _ _ _ _ _ _ hbA hk5).1⟩
set_option maxHeartbeats 2000000 in
theorem resize9c (PO : Pol9Ok) (hc : w.heap[g]? = some (.cells cl9C CT9 (0, 0))) (h : S13 w PT13 b m x) (hps : m.ps = .twoq s) (ok : s.Ok) (n : Int) (hn1 : -9223372036854775808 ≤ n) (hn2 : n ≤ 9223372036854775807) :
    Calls Tryz.prog 149 #[.pointer (some ⟨b, 0, none⟩), .int .i64 n, .pointer (some ⟨g, 0, none⟩)] w fun e w' => ∃ v, e = .returned v ∧ Ps w b m x (.twoq (s.resize n)) w' ∧ KV w' v (s.resizeOut n) := by
  have hb := h.lt
  have hpol := h.st.pol
  rw [hps] at hpol
  obtain ⟨hp, hc0, hst⟩ := hpol
  have HF := Lib.hid (fld9 w b)
  have hcl := (head_row hc).lt
  have HLD : Hid (∀ W : World, Below w.heap.size w W → W.cell? ⟨b, 3, none⟩ = some (.int .i64 (s.c : Nat)) ∧ W.cell? ⟨b, 4, none⟩ = some (.slice x.i9.F x.i9.n x.i9.c) ∧ W.cell? ⟨b, 5, none⟩ = some (.slice x.o9.F x.o9.n x.o9.c) ∧ W.cell? ⟨b, 6, none⟩ = some (.slice x.m9.F x.m9.n x.m9.c) ∧ W.cell? ⟨g, 5, none⟩ = some (.func (.func 71) #[] #[])) := Lib.hid (fun W hW => by
    obtain ⟨-, -, -, p3, p4, p5, p6, -⟩ := box_cells ((hW.block b hb).trans h.box)
    rw [hc0] at p3
    exact ⟨p3, p4, p5, p6, (head_row ((hW.block g hcl).trans hc)).cell (i := 5) (by simp)⟩)
  have HFR : Hid (∀ W : World, Below w.heap.size w W → W.frozen? ⟨b, 3, none⟩ = false ∧ W.frozen? ⟨b, 4, none⟩ = false ∧ W.frozen? ⟨b, 5, none⟩ = false ∧ W.frozen? ⟨b, 6, none⟩ = false) := Lib.hid (fun W hW => ⟨box_free ((hW.block b hb).trans h.box) 3, box_free ((hW.block b hb).trans h.box) 4, box_free ((hW.block b hb).trans h.box) 5, box_free ((hW.block b hb).trans h.box) 6⟩)
  have HEND : Hid (∀ W F0 n0 d0 F1 n1 d1 F2 n2 d2, Below w.heap.size w W → St9 W (s.resize n) (.slice F0 n0 d0) (.slice F1 n1 d1) (.slice F2 n2 d2) → Ps w b m x (.twoq (s.resize n)) ((((W.setCell ⟨b, 3, none⟩ (.int .i64 ((s.resize n).c : Nat))).setCell ⟨b, 4, none⟩ (.slice F0 n0 d0)).setCell ⟨b, 5, none⟩ (.slice F1 n1 d1)).setCell ⟨b, 6, none⟩ (.slice F2 n2 d2)) ∧ ∀ o out, KV W o out → KV ((((W.setCell ⟨b, 3, none⟩ (.int .i64 ((s.resize n).c : Nat))).setCell ⟨b, 4, none⟩ (.slice F0 n0 d0)).setCell ⟨b, 5, none⟩ (.slice F1 n1 d1)).setCell ⟨b, 6, none⟩ (.slice F2 n2 d2)) o out) := Lib.hid (fun W F0 n0 d0 F1 n1 d1 F2 n2 d2 hW hs => by
    obtain ⟨h1, h2⟩ := box_set9 ((h.below hW).box) ((s.resize n).c : Nat) F0 n0 d0 F1 n1 d1 F2 n2 d2
    have h3 := (h.below hW).st.only h2 (h.below hW).bx
    exact ⟨⟨(Only.of_below hW).trans h2 (by simp), { x with c9 := ((s.resize n).c : Nat), i9 := ⟨F0, n0, d0⟩, o9 := ⟨F1, n1, d1⟩, m9 := ⟨F2, n2, d2⟩ }, rfl, ⟨h1, h.ty, ⟨⟨hp, rfl, ⟨hs.g1.only h2 (h.below hW).bx, hs.g2.only h2 (h.below hW).bx, hs.g3.only h2 (h.below hW).bx⟩⟩, h3.prs, h3.hi, h3.mi, h3.ev⟩⟩⟩, fun o out ho => ho.only h2 (h.below hW).bx⟩)
  have c0 : w.cell? ⟨g, 0, none⟩ = some (.func (.func 66) #[] #[]) := (head_row hc).cell (i := 0) (by simp)
  obtain ⟨k0, k1, k2, k3, k4⟩ := HLD.out w (Below.refl _ _)
  have KT : Hid (∀ W, Below w.heap.size w W → Calls Tryz.prog 71 #[(.agg (l9C s.c (.slice x.i9.F x.i9.n x.i9.c) (.slice x.o9.F x.o9.n x.o9.c) (.slice x.m9.F x.m9.n x.m9.c))), .int .i64 n] W (P9o W (s.resize n) (s.resizeOut n))) := Lib.hid (fun W hW => PO.resize (hst.below hW) ok n hn1 hn2)
  clear hst hc0 hp h hps hc
  go_enter Tryz.func149, Tryz.ntmps149
  go_wp2_with (go_at_call 66; refine HF.out.mono ?_; rintro e w1 ⟨rfl, rfl⟩)
  go_region_with (go_at_call 71; refine (KT.out _ (below_drewn (Below.refl _ _) _)).mono ?_; rintro e w5 ⟨u50, u51, u52, o5, he, hb5, hk5, ho5⟩; obtain ⟨F50, n50, d50, rfl⟩ := hk5.form1; obtain ⟨F51, n51, d51, rfl⟩ := hk5.form2; obtain ⟨F52, n52, d52, rfl⟩ := hk5.form3; subst he; have hbA := (below_drewn (Below.refl w1.heap.size w1) _).trans hb5; obtain ⟨z0, z1, z2, z3⟩ := HFR.out w5 hbA; obtain ⟨k0, k1, k2, k3, k4⟩ := HLD.out w5 hbA)
  all_goals
    go_wp2
    go_ret
    exact ⟨_, rfl, (HEND.out _ _ _ _ _ _ _ _ _ _ hbA hk5).1, (HEND.out _ _ _ _ _ _ _ _ _ _ hbA hk5).2 _ _ ho5⟩
end
end Go.Proofs.YtcpggonengkgiaaGreatDoor
/- The machine's calls of twoq. -/
namespace Go.Proofs.YtcpggonengkgiaaGreatDoor
open Go Go.RowKit Go.Deep
set_option maxRecDepth 8000
section
variable {w : World} {b g : Nat} {m : M13} {x : V13} {s : L9}
set_option maxHeartbeats 2000000 in
theorem has9c (PO : Pol9Ok) (hc : w.heap[g]? = some (.cells cl9C CT9 (0, 0))) (h : S13 w PT13 b m x) (hps : m.ps = .twoq s) (ok : s.Ok) (k : Nat) (hk : k < 18446744073709551616) :
    Calls Tryz.prog 155 #[.pointer (some ⟨b, 0, none⟩), .int .u64 (k : Nat), .pointer (some ⟨g, 0, none⟩)] w (RetB w (decide (k ∈ s.keys))) := by
  have hb := h.lt
  have hpol := h.st.pol
  rw [hps] at hpol
  obtain ⟨hp, hc0, hst⟩ := hpol
  have HF := Lib.hid (fld9 w b)
  have hcl := (head_row hc).lt
  have HLD : Hid (∀ W : World, Below w.heap.size w W → W.cell? ⟨b, 3, none⟩ = some (.int .i64 (s.c : Nat)) ∧ W.cell? ⟨b, 4, none⟩ = some (.slice x.i9.F x.i9.n x.i9.c) ∧ W.cell? ⟨b, 5, none⟩ = some (.slice x.o9.F x.o9.n x.o9.c) ∧ W.cell? ⟨b, 6, none⟩ = some (.slice x.m9.F x.m9.n x.m9.c) ∧ W.cell? ⟨g, 6, none⟩ = some (.func (.func 72) #[] #[])) := Lib.hid (fun W hW => by
    obtain ⟨-, -, -, p3, p4, p5, p6, -⟩ := box_cells ((hW.block b hb).trans h.box)
    rw [hc0] at p3
    exact ⟨p3, p4, p5, p6, (head_row ((hW.block g hcl).trans hc)).cell (i := 6) (by simp)⟩)
  have c0 : w.cell? ⟨g, 0, none⟩ = some (.func (.func 66) #[] #[]) := (head_row hc).cell (i := 0) (by simp)
  obtain ⟨k0, k1, k2, k3, k4⟩ := HLD.out w (Below.refl _ _)
  have KT : Hid (∀ W, Below w.heap.size w W → Calls Tryz.prog 72 #[(.agg (l9C s.c (.slice x.i9.F x.i9.n x.i9.c) (.slice x.o9.F x.o9.n x.o9.c) (.slice x.m9.F x.m9.n x.m9.c))), .int .u64 (k : Nat)] W (RetB W (decide (k ∈ s.keys)))) := Lib.hid (fun W hW => PO.has (hst.below hW) ok k hk)
  have HL5 : Hid (∀ W : World, Below w.heap.size w W → W.cell? ⟨b, 3, none⟩ = some (.int .i64 (s.c : Nat)) ∧ W.cell? ⟨b, 4, none⟩ = some (.slice x.i9.F x.i9.n x.i9.c) ∧ W.cell? ⟨b, 5, none⟩ = some (.slice x.o9.F x.o9.n x.o9.c) ∧ W.cell? ⟨b, 6, none⟩ = some (.slice x.m9.F x.m9.n x.m9.c) ∧ W.cell? ⟨g, 6, none⟩ = some (.func (.func 72) #[] #[]) ∧ W.cell? ⟨g, 0, none⟩ = some (.func (.func 66) #[] #[])) := Lib.hid (fun W hW => by
    obtain ⟨j0, j1, j2, j3, j4⟩ := HLD.out W hW
    exact ⟨j0, j1, j2, j3, j4, (head_row ((hW.block g hcl).trans hc)).cell (i := 0) (by simp)⟩)
  clear hst hc0 hp h hps hc
  go_enter Tryz.func155, Tryz.ntmps155
  go_wp2_with fail
  go_region_held3 (fun w' => w'.cell? ⟨b, 3, none⟩ = some (.int .i64 (s.c : Nat)) ∧ w'.cell? ⟨b, 4, none⟩ = some (.slice x.i9.F x.i9.n x.i9.c) ∧ w'.cell? ⟨b, 5, none⟩ = some (.slice x.o9.F x.o9.n x.o9.c) ∧ w'.cell? ⟨b, 6, none⟩ = some (.slice x.m9.F x.m9.n x.m9.c) ∧ w'.cell? ⟨g, 6, none⟩ = some (.func (.func 72) #[] #[]) ∧ w'.cell? ⟨g, 0, none⟩ = some (.func (.func 66) #[] #[]))
    (first | with_reducible exact kk5 | go_keep)
    (first
    | (go_at_call 66; refine (fld9 _ b).mono ?_; rintro e w1 ⟨rfl, rfl⟩)
    | (go_at_call 72; refine (KT.out _ (below_drewn (Below.refl _ _) _)).mono ?_; rintro e w5 ⟨rfl, hb5⟩; have hbA := (below_drewn (Below.refl w.heap.size w) _).trans hb5; have kk5 := HL5.out w5 hbA))
  all_goals
    go_wp2
    go_ret
    exact ⟨rfl, hbA⟩
set_option maxHeartbeats 2000000 in
theorem keys9c (PO : Pol9Ok) (hc : w.heap[g]? = some (.cells cl9C CT9 (0, 0))) (h : S13 w PT13 b m x) (hps : m.ps = .twoq s) (ok : s.Ok)  :
    Calls Tryz.prog 156 #[.pointer (some ⟨b, 0, none⟩), .pointer (some ⟨g, 0, none⟩)] w (RetK w s.keys) := by
  have hb := h.lt
  have hpol := h.st.pol
  rw [hps] at hpol
  obtain ⟨hp, hc0, hst⟩ := hpol
  have HF := Lib.hid (fld9 w b)
  have hcl := (head_row hc).lt
  have HLD : Hid (∀ W : World, Below w.heap.size w W → W.cell? ⟨b, 3, none⟩ = some (.int .i64 (s.c : Nat)) ∧ W.cell? ⟨b, 4, none⟩ = some (.slice x.i9.F x.i9.n x.i9.c) ∧ W.cell? ⟨b, 5, none⟩ = some (.slice x.o9.F x.o9.n x.o9.c) ∧ W.cell? ⟨b, 6, none⟩ = some (.slice x.m9.F x.m9.n x.m9.c) ∧ W.cell? ⟨g, 7, none⟩ = some (.func (.func 73) #[] #[])) := Lib.hid (fun W hW => by
    obtain ⟨-, -, -, p3, p4, p5, p6, -⟩ := box_cells ((hW.block b hb).trans h.box)
    rw [hc0] at p3
    exact ⟨p3, p4, p5, p6, (head_row ((hW.block g hcl).trans hc)).cell (i := 7) (by simp)⟩)
  have c0 : w.cell? ⟨g, 0, none⟩ = some (.func (.func 66) #[] #[]) := (head_row hc).cell (i := 0) (by simp)
  obtain ⟨k0, k1, k2, k3, k4⟩ := HLD.out w (Below.refl _ _)
  have KT : Hid (∀ W, Below w.heap.size w W → Calls Tryz.prog 73 #[(.agg (l9C s.c (.slice x.i9.F x.i9.n x.i9.c) (.slice x.o9.F x.o9.n x.o9.c) (.slice x.m9.F x.m9.n x.m9.c)))] W (RetK W s.keys)) := Lib.hid (fun W hW => PO.keys (hst.below hW) ok)
  have HL5 : Hid (∀ W : World, Below w.heap.size w W → W.cell? ⟨b, 3, none⟩ = some (.int .i64 (s.c : Nat)) ∧ W.cell? ⟨b, 4, none⟩ = some (.slice x.i9.F x.i9.n x.i9.c) ∧ W.cell? ⟨b, 5, none⟩ = some (.slice x.o9.F x.o9.n x.o9.c) ∧ W.cell? ⟨b, 6, none⟩ = some (.slice x.m9.F x.m9.n x.m9.c) ∧ W.cell? ⟨g, 7, none⟩ = some (.func (.func 73) #[] #[]) ∧ W.cell? ⟨g, 0, none⟩ = some (.func (.func 66) #[] #[])) := Lib.hid (fun W hW => by
    obtain ⟨j0, j1, j2, j3, j4⟩ := HLD.out W hW
    exact ⟨j0, j1, j2, j3, j4, (head_row ((hW.block g hcl).trans hc)).cell (i := 0) (by simp)⟩)
  clear hst hc0 hp h hps hc
  go_enter Tryz.func156, Tryz.ntmps156
  go_wp2_with fail
  go_region_held3 (fun w' => w'.cell? ⟨b, 3, none⟩ = some (.int .i64 (s.c : Nat)) ∧ w'.cell? ⟨b, 4, none⟩ = some (.slice x.i9.F x.i9.n x.i9.c) ∧ w'.cell? ⟨b, 5, none⟩ = some (.slice x.o9.F x.o9.n x.o9.c) ∧ w'.cell? ⟨b, 6, none⟩ = some (.slice x.m9.F x.m9.n x.m9.c) ∧ w'.cell? ⟨g, 7, none⟩ = some (.func (.func 73) #[] #[]) ∧ w'.cell? ⟨g, 0, none⟩ = some (.func (.func 66) #[] #[]))
    (first | with_reducible exact kk5 | go_keep)
    (first
    | (go_at_call 66; refine (fld9 _ b).mono ?_; rintro e w1 ⟨rfl, rfl⟩)
    | (go_at_call 73; refine (KT.out _ (below_drewn (Below.refl _ _) _)).mono ?_; rintro e w5 ⟨v5, rfl, hb5, hk5⟩; have hbA := (below_drewn (Below.refl w.heap.size w) _).trans hb5; have kk5 := HL5.out w5 hbA))
  all_goals
    go_wp2
    go_ret
    exact ⟨_, rfl, hbA, hk5⟩
set_option maxHeartbeats 2000000 in
theorem ghosts9c (PO : Pol9Ok) (hc : w.heap[g]? = some (.cells cl9C CT9 (0, 0))) (h : S13 w PT13 b m x) (hps : m.ps = .twoq s) (ok : s.Ok)  :
    Calls Tryz.prog 157 #[.pointer (some ⟨b, 0, none⟩), .pointer (some ⟨g, 0, none⟩)] w (fun e w' => e = .returned (.int .i64 (s.ghosts : Nat)) ∧ Below w.heap.size w w') := by
  have hb := h.lt
  have hpol := h.st.pol
  rw [hps] at hpol
  obtain ⟨hp, hc0, hst⟩ := hpol
  have HF := Lib.hid (fld9 w b)
  have hcl := (head_row hc).lt
  have HLD : Hid (∀ W : World, Below w.heap.size w W → W.cell? ⟨b, 3, none⟩ = some (.int .i64 (s.c : Nat)) ∧ W.cell? ⟨b, 4, none⟩ = some (.slice x.i9.F x.i9.n x.i9.c) ∧ W.cell? ⟨b, 5, none⟩ = some (.slice x.o9.F x.o9.n x.o9.c) ∧ W.cell? ⟨b, 6, none⟩ = some (.slice x.m9.F x.m9.n x.m9.c) ∧ W.cell? ⟨g, 8, none⟩ = some (.func (.func 74) #[] #[])) := Lib.hid (fun W hW => by
    obtain ⟨-, -, -, p3, p4, p5, p6, -⟩ := box_cells ((hW.block b hb).trans h.box)
    rw [hc0] at p3
    exact ⟨p3, p4, p5, p6, (head_row ((hW.block g hcl).trans hc)).cell (i := 8) (by simp)⟩)
  have c0 : w.cell? ⟨g, 0, none⟩ = some (.func (.func 66) #[] #[]) := (head_row hc).cell (i := 0) (by simp)
  obtain ⟨k0, k1, k2, k3, k4⟩ := HLD.out w (Below.refl _ _)
  have KT : Hid (∀ W, Below w.heap.size w W → Calls Tryz.prog 74 #[(.agg (l9C s.c (.slice x.i9.F x.i9.n x.i9.c) (.slice x.o9.F x.o9.n x.o9.c) (.slice x.m9.F x.m9.n x.m9.c)))] W (fun e w' => e = .returned (.int .i64 (s.ghosts : Nat)) ∧ Below W.heap.size W w')) := Lib.hid (fun W hW => PO.ghosts (hst.below hW) ok)
  have HL5 : Hid (∀ W : World, Below w.heap.size w W → W.cell? ⟨b, 3, none⟩ = some (.int .i64 (s.c : Nat)) ∧ W.cell? ⟨b, 4, none⟩ = some (.slice x.i9.F x.i9.n x.i9.c) ∧ W.cell? ⟨b, 5, none⟩ = some (.slice x.o9.F x.o9.n x.o9.c) ∧ W.cell? ⟨b, 6, none⟩ = some (.slice x.m9.F x.m9.n x.m9.c) ∧ W.cell? ⟨g, 8, none⟩ = some (.func (.func 74) #[] #[]) ∧ W.cell? ⟨g, 0, none⟩ = some (.func (.func 66) #[] #[])) := Lib.hid (fun W hW => by
    obtain ⟨j0, j1, j2, j3, j4⟩ := HLD.out W hW
    exact ⟨j0, j1, j2, j3, j4, (head_row ((hW.block g hcl).trans hc)).cell (i := 0) (by simp)⟩)
  clear hst hc0 hp h hps hc
  go_enter Tryz.func157, Tryz.ntmps157
  go_wp2_with fail
  go_region_held3 (fun w' => w'.cell? ⟨b, 3, none⟩ = some (.int .i64 (s.c : Nat)) ∧ w'.cell? ⟨b, 4, none⟩ = some (.slice x.i9.F x.i9.n x.i9.c) ∧ w'.cell? ⟨b, 5, none⟩ = some (.slice x.o9.F x.o9.n x.o9.c) ∧ w'.cell? ⟨b, 6, none⟩ = some (.slice x.m9.F x.m9.n x.m9.c) ∧ w'.cell? ⟨g, 8, none⟩ = some (.func (.func 74) #[] #[]) ∧ w'.cell? ⟨g, 0, none⟩ = some (.func (.func 66) #[] #[]))
    (first | with_reducible exact kk5 | go_keep)
    (first
    | (go_at_call 66; refine (fld9 _ b).mono ?_; rintro e w1 ⟨rfl, rfl⟩)
    | (go_at_call 74; refine (KT.out _ (below_drewn (Below.refl _ _) _)).mono ?_; rintro e w5 ⟨rfl, hb5⟩; have hbA := (below_drewn (Below.refl w.heap.size w) _).trans hb5; have kk5 := HL5.out w5 hbA))
  all_goals
    go_wp2
    go_ret
    exact ⟨rfl, hbA⟩
set_option maxHeartbeats 2000000 in
theorem caps9c (hc : w.heap[g]? = some (.cells cl9C CT9 (0, 0))) (h : S13 w PT13 b m x) (hps : m.ps = .twoq s)  :
    Calls Tryz.prog 158 #[.pointer (some ⟨b, 0, none⟩), .pointer (some ⟨g, 0, none⟩)] w (fun e w' => e = .returned (.int .i64 (s.c : Nat)) ∧ Below w.heap.size w w') := by
  have hb := h.lt
  have hpol := h.st.pol
  rw [hps] at hpol
  obtain ⟨hp, hc0, hst⟩ := hpol
  have HF := Lib.hid (fld9 w b)
  have hcl := (head_row hc).lt
  have HLD : Hid (∀ W : World, Below w.heap.size w W → W.cell? ⟨b, 3, none⟩ = some (.int .i64 (s.c : Nat)) ∧ W.cell? ⟨b, 4, none⟩ = some (.slice x.i9.F x.i9.n x.i9.c) ∧ W.cell? ⟨b, 5, none⟩ = some (.slice x.o9.F x.o9.n x.o9.c) ∧ W.cell? ⟨b, 6, none⟩ = some (.slice x.m9.F x.m9.n x.m9.c) ∧ W.cell? ⟨g, 9, none⟩ = some (.func (.func 75) #[] #[])) := Lib.hid (fun W hW => by
    obtain ⟨-, -, -, p3, p4, p5, p6, -⟩ := box_cells ((hW.block b hb).trans h.box)
    rw [hc0] at p3
    exact ⟨p3, p4, p5, p6, (head_row ((hW.block g hcl).trans hc)).cell (i := 9) (by simp)⟩)
  have c0 : w.cell? ⟨g, 0, none⟩ = some (.func (.func 66) #[] #[]) := (head_row hc).cell (i := 0) (by simp)
  obtain ⟨k0, k1, k2, k3, k4⟩ := HLD.out w (Below.refl _ _)
  have KT : Hid (∀ W, Below w.heap.size w W → Calls Tryz.prog 75 #[(.agg (l9C s.c (.slice x.i9.F x.i9.n x.i9.c) (.slice x.o9.F x.o9.n x.o9.c) (.slice x.m9.F x.m9.n x.m9.c)))] W (fun e w' => e = .returned (.int .i64 (s.c : Nat)) ∧ Below W.heap.size W w')) := Lib.hid (fun W hW => cap9 W s _ _ _ (⟨(hst.below hW).form1, (hst.below hW).form2, (hst.below hW).form3⟩))
  have HL5 : Hid (∀ W : World, Below w.heap.size w W → W.cell? ⟨b, 3, none⟩ = some (.int .i64 (s.c : Nat)) ∧ W.cell? ⟨b, 4, none⟩ = some (.slice x.i9.F x.i9.n x.i9.c) ∧ W.cell? ⟨b, 5, none⟩ = some (.slice x.o9.F x.o9.n x.o9.c) ∧ W.cell? ⟨b, 6, none⟩ = some (.slice x.m9.F x.m9.n x.m9.c) ∧ W.cell? ⟨g, 9, none⟩ = some (.func (.func 75) #[] #[]) ∧ W.cell? ⟨g, 0, none⟩ = some (.func (.func 66) #[] #[])) := Lib.hid (fun W hW => by
    obtain ⟨j0, j1, j2, j3, j4⟩ := HLD.out W hW
    exact ⟨j0, j1, j2, j3, j4, (head_row ((hW.block g hcl).trans hc)).cell (i := 0) (by simp)⟩)
  clear hst hc0 hp h hps hc
  go_enter Tryz.func158, Tryz.ntmps158
  go_wp2_with fail
  go_region_held3 (fun w' => w'.cell? ⟨b, 3, none⟩ = some (.int .i64 (s.c : Nat)) ∧ w'.cell? ⟨b, 4, none⟩ = some (.slice x.i9.F x.i9.n x.i9.c) ∧ w'.cell? ⟨b, 5, none⟩ = some (.slice x.o9.F x.o9.n x.o9.c) ∧ w'.cell? ⟨b, 6, none⟩ = some (.slice x.m9.F x.m9.n x.m9.c) ∧ w'.cell? ⟨g, 9, none⟩ = some (.func (.func 75) #[] #[]) ∧ w'.cell? ⟨g, 0, none⟩ = some (.func (.func 66) #[] #[]))
    (first | with_reducible exact kk5 | go_keep)
    (first
    | (go_at_call 66; refine (fld9 _ b).mono ?_; rintro e w1 ⟨rfl, rfl⟩)
    | (go_at_call 75; refine (KT.out _ (below_drewn (Below.refl _ _) _)).mono ?_; rintro e w5 ⟨rfl, hb5⟩; have hbA := (below_drewn (Below.refl w.heap.size w) _).trans hb5; have kk5 := HL5.out w5 hbA))
  all_goals
    go_wp2
    go_ret
    exact ⟨rfl, hbA⟩
end
end Go.Proofs.YtcpggonengkgiaaGreatDoor
