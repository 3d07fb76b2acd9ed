/- Words and walks: McVC11 McVD11 McU11 McVA12. -/
import Derived.Test.YtcpggonengkgiaaGreatDoorG23
import Derived.Test.YtcpggonengkgiaaGreatDoorG32
import Derived.Test.YtcpggonengkgiaaGreatDoorG35
import Derived.Test.YtcpggonengkgiaaGreatDoorG40
import Derived.Deep.RegionHeld3
import Derived.Laws.EntriesVeiled
import Derived.Deep.RegionWith
/- The machine's calls of arc. -/
namespace Go.Proofs.YtcpggonengkgiaaGreatDoor
open Go Go.RowKit Go.Deep
set_option maxRecDepth 8000
section
variable {w : World} {b g : Nat} {m : M13} {x : V13} {s : L11}
set_option maxHeartbeats 4000000 in
theorem own11c (PO : Pol11Ok) (hc : w.heap[g]? = some (.cells cl11C CT11 (0, 0))) (h : S13 w PT13 b m x) (hps : m.ps = .arc s) (ok : s.Ok) {g2 : Nat} (hr : w.heap[g2]? = some (.cells #[.func (.func 185) #[] #[.pointer (some ⟨g, 0, none⟩)]] RT13_11 (0, 0))) :
    Calls Tryz.prog 187 #[.pointer (some ⟨b, 0, none⟩), .pointer (some ⟨g2, 0, none⟩), .pointer (some ⟨g, 0, none⟩)] w fun e w' => e = .returned (.tuple #[]) ∧ Ps w b m x (.arc s) w' := by
  have hb := h.lt
  have hpol := h.st.pol
  rw [hps] at hpol
  obtain ⟨hp, hc0, hc1, hst⟩ := hpol
  have hcl := (head_row hc).lt
  have hrl := (head_row hr).lt
  have HSS : Hid (∀ W : World, Below w.heap.size w W → W.cell? ⟨g2, 0, none⟩ = some (.func (.func 185) #[] #[.pointer (some ⟨g, 0, none⟩)]) ∧ W.cell? ⟨g, 0, none⟩ = some (.func (.func 88) #[] #[]) ∧ W.cell? ⟨g, 9, none⟩ = some (.func (.func 97) #[] #[])) := Lib.hid (fun W hW => by
    exact ⟨(head_row ((hW.block g2 hrl).trans hr)).cell (i := 0) (by simp), (head_row ((hW.block g hcl).trans hc)).cell (i := 0) (by simp), (head_row ((hW.block g hcl).trans hc)).cell (i := 9) (by simp)⟩)
  have KC : Hid (∀ W F0 n0 d0 F1 n1 d1 F2 n2 d2 F3 n3 d3, Calls Tryz.prog 97 #[.agg (l11C s.c s.p (.slice F0 n0 d0) (.slice F1 n1 d1) (.slice F2 n2 d2) (.slice F3 n3 d3))] W (fun e w' => e = .returned (.int .i64 (s.c : Nat)) ∧ Below W.heap.size W w')) := Lib.hid (fun W F0 n0 d0 F1 n1 d1 F2 n2 d2 F3 n3 d3 => cap11 W s _ _ _ _ (⟨⟨F0, n0, d0, rfl⟩, ⟨F1, n1, d1, rfl⟩, ⟨F2, n2, d2, rfl⟩, ⟨F3, n3, d3, rfl⟩⟩))
  have hcap := ok.cap
  have KR : Hid (∀ W, Below w.heap.size w W → Calls Tryz.prog 185 #[.pointer (some ⟨b, 0, none⟩), .int .i64 (s.c : Nat), .pointer (some ⟨g, 0, none⟩)] W (fun e w' => ∃ v, e = .returned v ∧ Ps w b m x (.arc s) w')) := Lib.hid (fun W hW => by
    refine (resize11c PO ((hW.block g hcl).trans hc) (h.below hW) hps ok (s.c : Nat) (by omega) (by omega)).mono ?_
    rintro e w' ⟨v, rfl, ⟨h1, x', h2, h3⟩, _⟩
    rw [(L11.own ok).1] at h3
    exact ⟨v, rfl, ⟨(Only.of_below hW).trans h1 (by simp), x', h2, h3⟩⟩)
  obtain ⟨k0, k1, k2⟩ := HSS.out w (Below.refl _ _)
  obtain ⟨-, -, -, -, -, -, -, -, -, -, -, p11, p12, p13, p14, p15, p16, -⟩ := box_cells h.box
  rw [hc0] at p11
  rw [hc1] at p12
  clear hst hc0 hc1 hp h hps hc hr hcap
  go_enter Tryz.func187, Tryz.ntmps187
  go_wp2_with fail
  go_region_with (first | (go_at_call 88; refine (fld11 _ b).mono ?_; rintro e w1 ⟨rfl, rfl⟩) | (go_at_call 97; refine (KC.out _ _ _ _ _ _ _ _ _ _ _ _ _).mono ?_; rintro e w5 ⟨rfl, hb5⟩; have hbA := (below_drewn (Below.refl w.heap.size w) _).trans hb5; obtain ⟨k0, k1, k2⟩ := HSS.out w5 hbA) | (go_at_call 185; refine (KR.out _ hbA).mono ?_; rintro e w6 ⟨v6, rfl, hp6⟩))
  all_goals
    go_wp2
    go_end0
    exact ⟨rfl, hp6⟩
end
end Go.Proofs.YtcpggonengkgiaaGreatDoor
/- The machine's calls of arc. -/
namespace Go.Proofs.YtcpggonengkgiaaGreatDoor
open Go Go.RowKit Go.Deep
set_option maxRecDepth 8000
section
variable {w : World} {b g : Nat} {m : M13} {x : V13} {s : L11}
set_option maxHeartbeats 4000000 in
theorem start11c (PO : Pol11Ok) (hc : w.heap[g]? = some (.cells cl11C CT11 (0, 0))) (h : w.heap[b]? = some (.cells x.C PT13 (0, 0))) (hp : x.p = 4) (n : Int) (hn1 : -9223372036854775808 ≤ n) (hn2 : n ≤ 9223372036854775807) :
    Calls Tryz.prog 186 #[.pointer (some ⟨b, 0, none⟩), .int .i64 n, .pointer (some ⟨g, 0, none⟩)] w fun e w' => e = .returned (.tuple #[]) ∧ Only [b] w w' ∧ ∃ x' : V13, x'.pr = x.pr ∧ x'.p = x.p ∧ x'.hi = x.hi ∧ x'.mi = x.mi ∧ x'.ev = x.ev ∧ w'.heap[b]? = some (.cells x'.C PT13 (0, 0)) ∧ PolIn w' x' (.arc (L11.new n)) := by
  have hb := (head_row h).lt
  have hcl := (head_row hc).lt
  have KT : Hid (∀ W, Below w.heap.size w W → Calls Tryz.prog 89 #[.int .i64 n] W (P11 W (L11.new n))) := Lib.hid (fun W _ => PO.new W n hn1 hn2)
  have HLD : Hid (∀ W : World, Below w.heap.size w W → W.cell? ⟨g, 0, none⟩ = some (.func (.func 88) #[] #[]) ∧ W.cell? ⟨g, 1, none⟩ = some (.func (.func 89) #[] #[])) := Lib.hid (fun W hW => ⟨(head_row ((hW.block g hcl).trans hc)).cell (i := 0) (by simp), (head_row ((hW.block g hcl).trans hc)).cell (i := 1) (by simp)⟩)
  have HFR : Hid (∀ W : World, Below w.heap.size w W → (W.frozen? ⟨b, 11, none⟩ = false ∧ W.frozen? ⟨b, 12, none⟩ = false ∧ W.frozen? ⟨b, 13, none⟩ = false ∧ W.frozen? ⟨b, 14, none⟩ = false ∧ W.frozen? ⟨b, 15, none⟩ = false ∧ W.frozen? ⟨b, 16, none⟩ = false) ∧ ∃ v11 v12 v13 v14 v15 v16, W.cell? ⟨b, 11, none⟩ = some v11 ∧ W.cell? ⟨b, 12, none⟩ = some v12 ∧ W.cell? ⟨b, 13, none⟩ = some v13 ∧ W.cell? ⟨b, 14, none⟩ = some v14 ∧ W.cell? ⟨b, 15, none⟩ = some v15 ∧ W.cell? ⟨b, 16, none⟩ = some v16) := Lib.hid (fun W hW => by
    obtain ⟨-, -, -, -, -, -, -, -, -, -, -, p11, p12, p13, p14, p15, p16, -⟩ := box_cells ((hW.block b hb).trans h)
    exact ⟨⟨box_free ((hW.block b hb).trans h) 11, box_free ((hW.block b hb).trans h) 12, box_free ((hW.block b hb).trans h) 13, box_free ((hW.block b hb).trans h) 14, box_free ((hW.block b hb).trans h) 15, box_free ((hW.block b hb).trans h) 16⟩, _, _, _, _, _, _, p11, p12, p13, p14, p15, p16⟩)
  obtain ⟨k0, k1⟩ := HLD.out w (Below.refl _ _)
  have HEND : Hid (∀ W F0 n0 d0 F1 n1 d1 F2 n2 d2 F3 n3 d3, Below w.heap.size w W → St11 W (L11.new n) (.slice F0 n0 d0) (.slice F1 n1 d1) (.slice F2 n2 d2) (.slice F3 n3 d3) → Only [b] w ((((((W.setCell ⟨b, 11, none⟩ (.int .i64 ((L11.new n).c : Nat))).setCell ⟨b, 12, none⟩ (.int .i64 ((L11.new n).p : Nat))).setCell ⟨b, 13, none⟩ (.slice F0 n0 d0)).setCell ⟨b, 14, none⟩ (.slice F1 n1 d1)).setCell ⟨b, 15, none⟩ (.slice F2 n2 d2)).setCell ⟨b, 16, none⟩ (.slice F3 n3 d3)) ∧ ∃ x' : V13, x'.pr = x.pr ∧ x'.p = x.p ∧ x'.hi = x.hi ∧ x'.mi = x.mi ∧ x'.ev = x.ev ∧ (((((((W.setCell ⟨b, 11, none⟩ (.int .i64 ((L11.new n).c : Nat))).setCell ⟨b, 12, none⟩ (.int .i64 ((L11.new n).p : Nat))).setCell ⟨b, 13, none⟩ (.slice F0 n0 d0)).setCell ⟨b, 14, none⟩ (.slice F1 n1 d1)).setCell ⟨b, 15, none⟩ (.slice F2 n2 d2)).setCell ⟨b, 16, none⟩ (.slice F3 n3 d3))).heap[b]? = some (.cells x'.C PT13 (0, 0)) ∧ PolIn ((((((W.setCell ⟨b, 11, none⟩ (.int .i64 ((L11.new n).c : Nat))).setCell ⟨b, 12, none⟩ (.int .i64 ((L11.new n).p : Nat))).setCell ⟨b, 13, none⟩ (.slice F0 n0 d0)).setCell ⟨b, 14, none⟩ (.slice F1 n1 d1)).setCell ⟨b, 15, none⟩ (.slice F2 n2 d2)).setCell ⟨b, 16, none⟩ (.slice F3 n3 d3)) x' (.arc (L11.new n))) := Lib.hid (fun W F0 n0 d0 F1 n1 d1 F2 n2 d2 F3 n3 d3 hW hs => by
    have hbx : ∀ j ∈ [b], Bx W j := fun j hj => by
      have e : j = b := by simpa using hj
      rw [e]
      exact ⟨_, _, (hW.block b hb).trans h, x.nou, by decide⟩
    obtain ⟨h1, h2⟩ := box_set11 ((hW.block b hb).trans h) ((L11.new n).c : Nat) ((L11.new n).p : Nat) F0 n0 d0 F1 n1 d1 F2 n2 d2 F3 n3 d3
    exact ⟨(Only.of_below hW).trans h2 (by simp), { x with c11 := ((L11.new n).c : Nat), p11 := ((L11.new n).p : Nat), t11 := ⟨F0, n0, d0⟩, u11 := ⟨F1, n1, d1⟩, b11 := ⟨F2, n2, d2⟩, d11 := ⟨F3, n3, d3⟩ }, rfl, rfl, rfl, rfl, rfl, h1, ⟨hp, rfl, rfl, ⟨hs.g1.only h2 hbx, hs.g2.only h2 hbx, hs.g3.only h2 hbx, hs.g4.only h2 hbx⟩⟩⟩)
  clear h hc hp
  go_enter Tryz.func186, Tryz.ntmps186
  go_wp2_with fail
  go_region_with (first | (go_at_call 88; refine (fld11 _ b).mono ?_; rintro e w1 ⟨rfl, rfl⟩) | (go_at_call 89; refine (KT.out _ (below_drewn (Below.refl _ _) _)).mono ?_; rintro e w5 ⟨u50, u51, u52, u53, rfl, hb5, hk5⟩; obtain ⟨F50, n50, d50, rfl⟩ := hk5.form1; obtain ⟨F51, n51, d51, rfl⟩ := hk5.form2; obtain ⟨F52, n52, d52, rfl⟩ := hk5.form3; obtain ⟨F53, n53, d53, rfl⟩ := hk5.form4; have hbA := (below_drewn (Below.refl w.heap.size w) _).trans hb5; obtain ⟨k0, k1⟩ := HLD.out w5 hbA; obtain ⟨⟨z0, z1, z2, z3, z4, z5⟩, y11, y12, y13, y14, y15, y16, y'11, y'12, y'13, y'14, y'15, y'16⟩ := HFR.out w5 hbA))
  all_goals
    go_wp2
    go_end0
    exact ⟨rfl, HEND.out _ _ _ _ _ _ _ _ _ _ _ _ _ hbA hk5⟩
end
end Go.Proofs.YtcpggonengkgiaaGreatDoor
/- The machine's calls of arc, packed. -/
namespace Go.Proofs.YtcpggonengkgiaaGreatDoor
open Go Go.RowKit Go.Deep
set_option maxRecDepth 8000
abbrev pf11 (g g2 : Nat) : PolF := ⟨186, 187, 188, 189, 190, 185, 191, 192, 193, 194, #[.pointer (some ⟨g, 0, none⟩)], #[.pointer (some ⟨g2, 0, none⟩), .pointer (some ⟨g, 0, none⟩)], #[.pointer (some ⟨g, 0, none⟩)], #[.pointer (some ⟨g, 0, none⟩)], #[.pointer (some ⟨g, 0, none⟩)], #[.pointer (some ⟨g, 0, none⟩)], #[.pointer (some ⟨g, 0, none⟩)], #[.pointer (some ⟨g, 0, none⟩)], #[.pointer (some ⟨g, 0, none⟩)], #[.pointer (some ⟨g, 0, none⟩)]⟩
def Iv11 (g g2 : Nat) (W : World) : Prop := W.heap[g]? = some (.cells cl11C CT11 (0, 0)) ∧ W.heap[g2]? = some (.cells #[.func (.func 185) #[] #[.pointer (some ⟨g, 0, none⟩)]] RT13_11 (0, 0))
theorem is11 {m : M13} (h : m.ps.tag = 4) : ∃ s, m.ps = .arc s := by
  cases hp : m.ps with
  | lru s => rw [hp] at h; cases h
  | twoq s => rw [hp] at h; cases h
  | sthree s => rw [hp] at h; cases h
  | arc s => exact ⟨s, rfl⟩
  | lirs s => rw [hp] at h; cases h
theorem polv11 (PO : Pol11Ok) (g g2 : Nat) : PolV (pf11 g g2) 4 [g, g2] (Iv11 g g2) where
  e0 := fun args W => by kernel_rfl
  e1 := fun args W => by kernel_rfl
  e2 := fun args W => by kernel_rfl
  e3 := fun args W => by kernel_rfl
  e4 := fun args W => by kernel_rfl
  e5 := fun args W => by kernel_rfl
  e6 := fun args W => by kernel_rfl
  e7 := fun args W => by kernel_rfl
  e8 := fun args W => by kernel_rfl
  e9 := fun args W => by kernel_rfl
  typ := fun W h k hk => by
    simp only [List.mem_cons, List.not_mem_nil, or_false] at hk
    rcases hk with rfl | rfl
    · exact ⟨_, _, h.1, by decide, by decide⟩
    · exact ⟨_, _, h.2, by decide, by decide⟩
  stay := fun W W' h hk => ⟨(hk g (by simp)).trans h.1, (hk g2 (by simp)).trans h.2⟩
  own := fun {W b m x} hi hs ht ok => by
    obtain ⟨s, hps⟩ := is11 ht
    have ok2 : s.Ok := by
      have h := ok
      rw [hps] at h
      exact h
    rw [hps]
    exact own11c PO hi.1 hs hps ok2 hi.2
  touch := fun {W b m x} hi hs ht ok k hk => by
    obtain ⟨s, hps⟩ := is11 ht
    have ok2 : s.Ok := by
      have h := ok
      rw [hps] at h
      exact h
    rw [hps]
    exact touch11c PO hi.1 hs hps ok2 k hk
  adm := fun {W b m x} hi hs ht ok k hk => by
    obtain ⟨s, hps⟩ := is11 ht
    have ok2 : s.Ok := by
      have h := ok
      rw [hps] at h
      exact h
    rw [hps]
    exact adm11c PO hi.1 hs hps ok2 k hk
  drop := fun {W b m x} hi hs ht ok k hk => by
    obtain ⟨s, hps⟩ := is11 ht
    have ok2 : s.Ok := by
      have h := ok
      rw [hps] at h
      exact h
    rw [hps]
    exact drop11c PO hi.1 hs hps ok2 k hk
  rsz := fun {W b m x} hi hs ht ok n h1 h2 => by
    obtain ⟨s, hps⟩ := is11 ht
    have ok2 : s.Ok := by
      have h := ok
      rw [hps] at h
      exact h
    rw [hps]
    exact resize11c PO hi.1 hs hps ok2 n h1 h2
  has := fun {W b m x} hi hs ht ok k hk => by
    obtain ⟨s, hps⟩ := is11 ht
    have ok2 : s.Ok := by
      have h := ok
      rw [hps] at h
      exact h
    rw [hps]
    exact has11c PO hi.1 hs hps ok2 k hk
  keys := fun {W b m x} hi hs ht ok => by
    obtain ⟨s, hps⟩ := is11 ht
    have ok2 : s.Ok := by
      have h := ok
      rw [hps] at h
      exact h
    rw [hps]
    exact keys11c PO hi.1 hs hps ok2
  gho := fun {W b m x} hi hs ht ok => by
    obtain ⟨s, hps⟩ := is11 ht
    have ok2 : s.Ok := by
      have h := ok
      rw [hps] at h
      exact h
    rw [hps]
    exact ghosts11c PO hi.1 hs hps ok2
  cap := fun {W b m x} hi hs ht ok => by
    obtain ⟨s, hps⟩ := is11 ht
    rw [hps]
    exact caps11c hi.1 hs hps
theorem pols11 (PO : Pol11Ok) (g g2 : Nat) : PolS (pf11 g g2) 4 (Iv11 g g2) := ⟨fun {_ _ _} hi hb hp n h1 h2 => start11c PO hi.1 hb hp n h1 h2⟩
set_option maxHeartbeats 2000000 in
theorem over11_walk (w : World) : Calls Tryz.prog 87 #[.agg cl11C] w fun e w' => e = .returned (.agg (pf11 w.heap.size (w.heap.size + 1 + 1)).C) ∧ Below w.heap.size w w' ∧ Iv11 w.heap.size (w.heap.size + 1 + 1) w' := by
  have hmf : ∀ (fn : Fn) (first cap : Array Value) (w : World), (Instr.makeFunc fn first cap).run Tryz.prog w = .ok (.func fn first cap) w := fun _ _ _ _ => rfl
  go_enter Tryz.func87, Tryz.ntmps87
  go_wp2_with fail
  refine bodyPost_ret (v := .agg (pf11 w.heap.size (w.heap.size + 1 + 1)).C) (by simp [results, Tryz.results87, go_sem]) rfl ⟨rfl, (low_two w _ _).alloc (by simp; omega) _, ?_, ?_⟩
  · rw [Below.heap_alloc _ _ _ (by simp; omega), Below.heap_alloc _ _ _ (by simp)]
    exact heap_alloc_new w _
  · have := heap_alloc_new ((w.alloc (.cells cl11C CT11)).alloc (.cells (pf11 w.heap.size (w.heap.size + 1 + 1)).C PolT)) (.cells #[.func (.func 185) #[] #[.pointer (some ⟨w.heap.size, 0, none⟩)]] RT13_11)
    simpa using this
set_option maxHeartbeats 2000000 in
theorem policyOf11_walk (w : World) : Calls Tryz.prog 28 #[.int .i64 4] w fun e w' => e = .returned (.tuple #[.agg (pf11 (w.heap.size + 1) (w.heap.size + 1 + 1 + 1)).C, .bool true]) ∧ Below w.heap.size w w' ∧ Iv11 (w.heap.size + 1) (w.heap.size + 1 + 1 + 1) w' := by
  have HO := Lib.hid (over11_walk (w.alloc (.cells #[.nilFunc, .nilFunc, .nilFunc, .nilFunc, .nilFunc, .nilFunc, .nilFunc, .nilFunc, .nilFunc, .nilFunc] PolT)))
  have hr := heap_alloc_new w (.cells #[.nilFunc, .nilFunc, .nilFunc, .nilFunc, .nilFunc, .nilFunc, .nilFunc, .nilFunc, .nilFunc, .nilFunc] PolT)
  have HR := Lib.hid hr
  have HL := Lib.hid (low_one w (.cells #[.nilFunc, .nilFunc, .nilFunc, .nilFunc, .nilFunc, .nilFunc, .nilFunc, .nilFunc, .nilFunc, .nilFunc] PolT))
  clear hr
  go_enter Tryz.func28, Tryz.ntmps28
  go_wp2_with fail
  refine HO.out.mono ?_
  rintro e w2 ⟨rfl, hb2, hi2⟩
  simp only [World.size_alloc] at hi2
  have hr2 := (hb2.block _ (head_row HR.out).lt).trans HR.out
  have HEND : Hid (∀ W, Only [w.heap.size] w2 W → Below w.heap.size w W ∧ Iv11 (w.heap.size + 1) (w.heap.size + 1 + 1 + 1) W) := Lib.hid (fun W ho => by
    have h3 := hb2.size
    simp only [World.size_alloc] at h3
    refine ⟨(HL.out.trans (hb2.mono HL.out.size)).trans (ho.below (by simp) (by omega)), (ho.block _ (head_row hi2.1).lt (by simp)).trans hi2.1, (ho.block _ (head_row hi2.2).lt (by simp; omega)).trans hi2.2⟩)
  obtain ⟨⟨z0, z1, z2, z3, z4, z5, z6, z7, z8, z9⟩, zf⟩ := c10_at hr2
  have zf0 := zf 0
  have zf1 := zf 1
  have zf2 := zf 2
  have zf3 := zf 3
  have zf4 := zf 4
  have zf5 := zf 5
  have zf6 := zf 6
  have zf7 := zf 7
  have zf8 := zf 8
  have zf9 := zf 9
  clear hb2 hi2 hr2 HO HR HL zf
  simp only [World.size_alloc]
  go_wp2_with fail
  refine bodyPost_ret (v := .tuple #[.agg (pf11 (w.heap.size + 1) (w.heap.size + 1 + 1 + 1)).C, .bool true]) (by simp [results, Tryz.results28, go_sem, z0, z1, z2, z3, z4, z5, z6, z7, z8, z9]) rfl ⟨rfl, HEND.out _ ((((((((((((Only.refl _ _).setCell (by simp) _).setCell (by simp) _).setCell (by simp) _).setCell (by simp) _).setCell (by simp) _).setCell (by simp) _).setCell (by simp) _).setCell (by simp) _).setCell (by simp) _).setCell (by simp) _))⟩
end Go.Proofs.YtcpggonengkgiaaGreatDoor
/- The machine's calls of lirs. -/
namespace Go.Proofs.YtcpggonengkgiaaGreatDoor
open Go Go.RowKit Go.Deep
set_option maxRecDepth 8000
abbrev CT12 : TypeId := 188
abbrev RT13_12 : TypeId := 93
abbrev cl12C : Array Value := #[.func (.func 99) #[] #[], .func (.func 100) #[] #[], .func (.func 101) #[] #[], .func (.func 102) #[] #[], .func (.func 103) #[] #[], .func (.func 104) #[] #[], .func (.func 105) #[] #[], .func (.func 106) #[] #[], .func (.func 107) #[] #[], .func (.func 108) #[] #[]]
section
variable {w : World} {b g : Nat} {m : M13} {x : V13} {s : L12}
theorem fld12 (w : World) (b : Nat) : Calls Tryz.prog 99 #[.pointer (some ⟨b, 0, none⟩)] w fun e w' => e = .returned (.pointer (some ⟨b, 17, none⟩)) ∧ w' = w := by
  go_enter Tryz.func99, Tryz.ntmps99
  go_wp2
  go_ret
  exact ⟨rfl, rfl⟩
theorem cap12 (w : World) (s : L12) (u1 u2 : Value) (hf : (∃ F n d, u1 = .slice F n d) ∧ (∃ F n d, u2 = .slice F n d)) : Calls Tryz.prog 108 #[.agg (l12C s.c u1 u2)] w fun e w' => e = .returned (.int .i64 (s.c : Nat)) ∧ Below w.heap.size w w' := by
  obtain ⟨⟨F0, n0, d0, rfl⟩, ⟨F1, n1, d1, rfl⟩⟩ := hf
  go_enter Tryz.func108, Tryz.ntmps108
  go_wp2
  go_ret
  exact ⟨rfl, low_one w _⟩
set_option maxHeartbeats 2000000 in
theorem touch12c (PO : Pol12Ok) (hc : w.heap[g]? = some (.cells cl12C CT12 (0, 0))) (h : S13 w PT13 b m x) (hps : m.ps = .lirs s) (ok : s.Ok) (k : Nat) (hk : k < 18446744073709551616) :
    Calls Tryz.prog 206 #[.pointer (some ⟨b, 0, none⟩), .int .u64 (k : Nat), .pointer (some ⟨g, 0, none⟩)] w fun e w' => e = .returned (.tuple #[]) ∧ Ps w b m x (.lirs (s.touch k)) w' := by
  have hb := h.lt
  have hpol := h.st.pol
  rw [hps] at hpol
  obtain ⟨hp, hc0, hst⟩ := hpol
  have HF := Lib.hid (fld12 w b)
  have hcl := (head_row hc).lt
  have HLD : Hid (∀ W : World, Below w.heap.size w W → W.cell? ⟨b, 17, none⟩ = some (.int .i64 (s.c : Nat)) ∧ W.cell? ⟨b, 18, none⟩ = some (.slice x.s12.F x.s12.n x.s12.c) ∧ W.cell? ⟨b, 19, none⟩ = some (.slice x.q12.F x.q12.n x.q12.c) ∧ W.cell? ⟨g, 2, none⟩ = some (.func (.func 101) #[] #[])) := Lib.hid (fun W hW => by
    obtain ⟨-, -, -, -, -, -, -, -, -, -, -, -, -, -, -, -, -, p17, p18, p19, -⟩ := box_cells ((hW.block b hb).trans h.box)
    rw [hc0] at p17
    exact ⟨p17, p18, p19, (head_row ((hW.block g hcl).trans hc)).cell (i := 2) (by simp)⟩)
  have HFR : Hid (∀ W : World, Below w.heap.size w W → W.frozen? ⟨b, 17, none⟩ = false ∧ W.frozen? ⟨b, 18, none⟩ = false ∧ W.frozen? ⟨b, 19, none⟩ = false) := Lib.hid (fun W hW => ⟨box_free ((hW.block b hb).trans h.box) 17, box_free ((hW.block b hb).trans h.box) 18, box_free ((hW.block b hb).trans h.box) 19⟩)
  have HEND : Hid (∀ W F0 n0 d0 F1 n1 d1, Below w.heap.size w W → St12 W (s.touch k) (.slice F0 n0 d0) (.slice F1 n1 d1) → Ps w b m x (.lirs (s.touch k)) (((W.setCell ⟨b, 17, none⟩ (.int .i64 ((s.touch k).c : Nat))).setCell ⟨b, 18, none⟩ (.slice F0 n0 d0)).setCell ⟨b, 19, none⟩ (.slice F1 n1 d1)) ∧ ∀ o out, KV W o out → KV (((W.setCell ⟨b, 17, none⟩ (.int .i64 ((s.touch k).c : Nat))).setCell ⟨b, 18, none⟩ (.slice F0 n0 d0)).setCell ⟨b, 19, none⟩ (.slice F1 n1 d1)) o out) := Lib.hid (fun W F0 n0 d0 F1 n1 d1 hW hs => by
    obtain ⟨h1, h2⟩ := box_set12 ((h.below hW).box) ((s.touch k).c : Nat) F0 n0 d0 F1 n1 d1
    have h3 := (h.below hW).st.only h2 (h.below hW).bx
    exact ⟨⟨(Only.of_below hW).trans h2 (by simp), { x with c12 := ((s.touch k).c : Nat), s12 := ⟨F0, n0, d0⟩, q12 := ⟨F1, n1, d1⟩ }, rfl, ⟨h1, h.ty, ⟨⟨hp, rfl, ⟨hs.g1.only h2 (h.below hW).bx, hs.g2.only h2 (h.below hW).bx⟩⟩, h3.prs, h3.hi, h3.mi, h3.ev⟩⟩⟩, fun o out ho => ho.only h2 (h.below hW).bx⟩)
  have c0 : w.cell? ⟨g, 0, none⟩ = some (.func (.func 99) #[] #[]) := (head_row hc).cell (i := 0) (by simp)
  obtain ⟨k0, k1, k2, k3⟩ := HLD.out w (Below.refl _ _)
  have KT : Hid (∀ W, Below w.heap.size w W → Calls Tryz.prog 101 #[(.agg (l12C s.c (.slice x.s12.F x.s12.n x.s12.c) (.slice x.q12.F x.q12.n x.q12.c))), .int .u64 (k : Nat)] W (P12 W (s.touch k))) := Lib.hid (fun W hW => PO.touch (hst.below hW) ok k hk)
  clear hst hc0 hp h hps hc
  go_enter Tryz.func206, Tryz.ntmps206
  go_wp2_with (go_at_call 99; refine HF.out.mono ?_; rintro e w1 ⟨rfl, rfl⟩)
  go_region_with (go_at_call 101; refine (KT.out _ (below_drewn (Below.refl _ _) _)).mono ?_; rintro e w5 ⟨u50, u51, rfl, hb5, hk5⟩; obtain ⟨F50, n50, d50, rfl⟩ := hk5.form1; obtain ⟨F51, n51, d51, rfl⟩ := hk5.form2; have hbA := (below_drewn (Below.refl w1.heap.size w1) _).trans hb5; obtain ⟨z0, z1, z2⟩ := HFR.out w5 hbA; obtain ⟨k0, k1, k2, k3⟩ := HLD.out w5 hbA)
  all_goals
    go_wp2
    go_end0
    exact ⟨rfl, (HEND.out _ _ _ _ _ _ _ hbA hk5).1⟩
set_option maxHeartbeats 2000000 in
theorem adm12c (PO : Pol12Ok) (hc : w.heap[g]? = some (.cells cl12C CT12 (0, 0))) (h : S13 w PT13 b m x) (hps : m.ps = .lirs s) (ok : s.Ok) (k : Nat) (hk : k < 18446744073709551616) :
    Calls Tryz.prog 207 #[.pointer (some ⟨b, 0, none⟩), .int .u64 (k : Nat), .pointer (some ⟨g, 0, none⟩)] w fun e w' => ∃ v, e = .returned v ∧ Ps w b m x (.lirs (s.adm k)) w' ∧ KV w' v (s.admitOut k) := by
  have hb := h.lt
  have hpol := h.st.pol
  rw [hps] at hpol
  obtain ⟨hp, hc0, hst⟩ := hpol
  have HF := Lib.hid (fld12 w b)
  have hcl := (head_row hc).lt
  have HLD : Hid (∀ W : World, Below w.heap.size w W → W.cell? ⟨b, 17, none⟩ = some (.int .i64 (s.c : Nat)) ∧ W.cell? ⟨b, 18, none⟩ = some (.slice x.s12.F x.s12.n x.s12.c) ∧ W.cell? ⟨b, 19, none⟩ = some (.slice x.q12.F x.q12.n x.q12.c) ∧ W.cell? ⟨g, 3, none⟩ = some (.func (.func 102) #[] #[])) := Lib.hid (fun W hW => by
    obtain ⟨-, -, -, -, -, -, -, -, -, -, -, -, -, -, -, -, -, p17, p18, p19, -⟩ := box_cells ((hW.block b hb).trans h.box)
    rw [hc0] at p17
    exact ⟨p17, p18, p19, (head_row ((hW.block g hcl).trans hc)).cell (i := 3) (by simp)⟩)
  have HFR : Hid (∀ W : World, Below w.heap.size w W → W.frozen? ⟨b, 17, none⟩ = false ∧ W.frozen? ⟨b, 18, none⟩ = false ∧ W.frozen? ⟨b, 19, none⟩ = false) := Lib.hid (fun W hW => ⟨box_free ((hW.block b hb).trans h.box) 17, box_free ((hW.block b hb).trans h.box) 18, box_free ((hW.block b hb).trans h.box) 19⟩)
  have HEND : Hid (∀ W F0 n0 d0 F1 n1 d1, Below w.heap.size w W → St12 W (s.adm k) (.slice F0 n0 d0) (.slice F1 n1 d1) → Ps w b m x (.lirs (s.adm k)) (((W.setCell ⟨b, 17, none⟩ (.int .i64 ((s.adm k).c : Nat))).setCell ⟨b, 18, none⟩ (.slice F0 n0 d0)).setCell ⟨b, 19, none⟩ (.slice F1 n1 d1)) ∧ ∀ o out, KV W o out → KV (((W.setCell ⟨b, 17, none⟩ (.int .i64 ((s.adm k).c : Nat))).setCell ⟨b, 18, none⟩ (.slice F0 n0 d0)).setCell ⟨b, 19, none⟩ (.slice F1 n1 d1)) o out) := Lib.hid (fun W F0 n0 d0 F1 n1 d1 hW hs => by
    obtain ⟨h1, h2⟩ := box_set12 ((h.below hW).box) ((s.adm k).c : Nat) F0 n0 d0 F1 n1 d1
    have h3 := (h.below hW).st.only h2 (h.below hW).bx
    exact ⟨⟨(Only.of_below hW).trans h2 (by simp), { x with c12 := ((s.adm k).c : Nat), s12 := ⟨F0, n0, d0⟩, q12 := ⟨F1, n1, d1⟩ }, rfl, ⟨h1, h.ty, ⟨⟨hp, rfl, ⟨hs.g1.only h2 (h.below hW).bx, hs.g2.only h2 (h.below hW).bx⟩⟩, h3.prs, h3.hi, h3.mi, h3.ev⟩⟩⟩, fun o out ho => ho.only h2 (h.below hW).bx⟩)
  have c0 : w.cell? ⟨g, 0, none⟩ = some (.func (.func 99) #[] #[]) := (head_row hc).cell (i := 0) (by simp)
  obtain ⟨k0, k1, k2, k3⟩ := HLD.out w (Below.refl _ _)
  have KT : Hid (∀ W, Below w.heap.size w W → Calls Tryz.prog 102 #[(.agg (l12C s.c (.slice x.s12.F x.s12.n x.s12.c) (.slice x.q12.F x.q12.n x.q12.c))), .int .u64 (k : Nat)] W (P12o W (s.adm k) (s.admitOut k))) := Lib.hid (fun W hW => PO.adm (hst.below hW) ok k hk)
  clear hst hc0 hp h hps hc
  go_enter Tryz.func207, Tryz.ntmps207
  go_wp2_with (go_at_call 99; refine HF.out.mono ?_; rintro e w1 ⟨rfl, rfl⟩)
  go_region_with (go_at_call 102; refine (KT.out _ (below_drewn (Below.refl _ _) _)).mono ?_; rintro e w5 ⟨u50, u51, o5, he, hb5, hk5, ho5⟩; obtain ⟨F50, n50, d50, rfl⟩ := hk5.form1; obtain ⟨F51, n51, d51, rfl⟩ := hk5.form2; subst he; have hbA := (below_drewn (Below.refl w1.heap.size w1) _).trans hb5; obtain ⟨z0, z1, z2⟩ := HFR.out w5 hbA; obtain ⟨k0, k1, k2, k3⟩ := HLD.out w5 hbA)
  all_goals
    go_wp2
    go_ret
    exact ⟨_, rfl, (HEND.out _ _ _ _ _ _ _ hbA hk5).1, (HEND.out _ _ _ _ _ _ _ hbA hk5).2 _ _ ho5⟩
set_option maxHeartbeats 2000000 in
theorem drop12c (PO : Pol12Ok) (hc : w.heap[g]? = some (.cells cl12C CT12 (0, 0))) (h : S13 w PT13 b m x) (hps : m.ps = .lirs s) (ok : s.Ok) (k : Nat) (hk : k < 18446744073709551616) :
    Calls Tryz.prog 208 #[.pointer (some ⟨b, 0, none⟩), .int .u64 (k : Nat), .pointer (some ⟨g, 0, none⟩)] w fun e w' => e = .returned (.tuple #[]) ∧ Ps w b m x (.lirs (s.drop k)) w' := by
  have hb := h.lt
  have hpol := h.st.pol
  rw [hps] at hpol
  obtain ⟨hp, hc0, hst⟩ := hpol
  have HF := Lib.hid (fld12 w b)
  have hcl := (head_row hc).lt
  have HLD : Hid (∀ W : World, Below w.heap.size w W → W.cell? ⟨b, 17, none⟩ = some (.int .i64 (s.c : Nat)) ∧ W.cell? ⟨b, 18, none⟩ = some (.slice x.s12.F x.s12.n x.s12.c) ∧ W.cell? ⟨b, 19, none⟩ = some (.slice x.q12.F x.q12.n x.q12.c) ∧ W.cell? ⟨g, 4, none⟩ = some (.func (.func 103) #[] #[])) := Lib.hid (fun W hW => by
    obtain ⟨-, -, -, -, -, -, -, -, -, -, -, -, -, -, -, -, -, p17, p18, p19, -⟩ := box_cells ((hW.block b hb).trans h.box)
    rw [hc0] at p17
    exact ⟨p17, p18, p19, (head_row ((hW.block g hcl).trans hc)).cell (i := 4) (by simp)⟩)
  have HFR : Hid (∀ W : World, Below w.heap.size w W → W.frozen? ⟨b, 17, none⟩ = false ∧ W.frozen? ⟨b, 18, none⟩ = false ∧ W.frozen? ⟨b, 19, none⟩ = false) := Lib.hid (fun W hW => ⟨box_free ((hW.block b hb).trans h.box) 17, box_free ((hW.block b hb).trans h.box) 18, box_free ((hW.block b hb).trans h.box) 19⟩)
  have HEND : Hid (∀ W F0 n0 d0 F1 n1 d1, Below w.heap.size w W → St12 W (s.drop k) (.slice F0 n0 d0) (.slice F1 n1 d1) → Ps w b m x (.lirs (s.drop k)) (((W.setCell ⟨b, 17, none⟩ (.int .i64 ((s.drop k).c : Nat))).setCell ⟨b, 18, none⟩ (.slice F0 n0 d0)).setCell ⟨b, 19, none⟩ (.slice F1 n1 d1)) ∧ ∀ o out, KV W o out → KV (((W.setCell ⟨b, 17, none⟩ (.int .i64 ((s.drop k).c : Nat))).setCell ⟨b, 18, none⟩ (.slice F0 n0 d0)).setCell ⟨b, 19, none⟩ (.slice F1 n1 d1)) o out) := Lib.hid (fun W F0 n0 d0 F1 n1 d1 hW hs => by
    obtain ⟨h1, h2⟩ := box_set12 ((h.below hW).box) ((s.drop k).c : Nat) F0 n0 d0 F1 n1 d1
    have h3 := (h.below hW).st.only h2 (h.below hW).bx
    exact ⟨⟨(Only.of_below hW).trans h2 (by simp), { x with c12 := ((s.drop k).c : Nat), s12 := ⟨F0, n0, d0⟩, q12 := ⟨F1, n1, d1⟩ }, rfl, ⟨h1, h.ty, ⟨⟨hp, rfl, ⟨hs.g1.only h2 (h.below hW).bx, hs.g2.only h2 (h.below hW).bx⟩⟩, h3.prs, h3.hi, h3.mi, h3.ev⟩⟩⟩, fun o out ho => ho.only h2 (h.below hW).bx⟩)
  have c0 : w.cell? ⟨g, 0, none⟩ = some (.func (.func 99) #[] #[]) := (head_row hc).cell (i := 0) (by simp)
  obtain ⟨k0, k1, k2, k3⟩ := HLD.out w (Below.refl _ _)
  have KT : Hid (∀ W, Below w.heap.size w W → Calls Tryz.prog 103 #[(.agg (l12C s.c (.slice x.s12.F x.s12.n x.s12.c) (.slice x.q12.F x.q12.n x.q12.c))), .int .u64 (k : Nat)] W (P12 W (s.drop k))) := Lib.hid (fun W hW => PO.drop (hst.below hW) ok k hk)
  clear hst hc0 hp h hps hc
  go_enter Tryz.func208, Tryz.ntmps208
  go_wp2_with (go_at_call 99; refine HF.out.mono ?_; rintro e w1 ⟨rfl, rfl⟩)
  go_region_with (go_at_call 103; refine (KT.out _ (below_drewn (Below.refl _ _) _)).mono ?_; rintro e w5 ⟨u50, u51, rfl, hb5, hk5⟩; obtain ⟨F50, n50, d50, rfl⟩ := hk5.form1; obtain ⟨F51, n51, d51, rfl⟩ := hk5.form2; have hbA := (below_drewn (Below.refl w1.heap.size w1) _).trans hb5; obtain ⟨z0, z1, z2⟩ := HFR.out w5 hbA; obtain ⟨k0, k1, k2, k3⟩ := HLD.out w5 hbA)
  all_goals
    go_wp2
    go_end0
    exact ⟨rfl, (HEND.out _ _ _ _ _ _ _ hbA hk5).1⟩
set_option maxHeartbeats 2000000 in
theorem resize12c (PO : Pol12Ok) (hc : w.heap[g]? = some (.cells cl12C CT12 (0, 0))) (h : S13 w PT13 b m x) (hps : m.ps = .lirs s) (ok : s.Ok) (n : Int) (hn1 : -9223372036854775808 ≤ n) (hn2 : n ≤ 9223372036854775807) :
    Calls Tryz.prog 203 #[.pointer (some ⟨b, 0, none⟩), .int .i64 n, .pointer (some ⟨g, 0, none⟩)] w fun e w' => ∃ v, e = .returned v ∧ Ps w b m x (.lirs (s.resize n)) w' ∧ KV w' v (s.resizeOut n) := by
  have hb := h.lt
  have hpol := h.st.pol
  rw [hps] at hpol
  obtain ⟨hp, hc0, hst⟩ := hpol
  have HF := Lib.hid (fld12 w b)
  have hcl := (head_row hc).lt
  have HLD : Hid (∀ W : World, Below w.heap.size w W → W.cell? ⟨b, 17, none⟩ = some (.int .i64 (s.c : Nat)) ∧ W.cell? ⟨b, 18, none⟩ = some (.slice x.s12.F x.s12.n x.s12.c) ∧ W.cell? ⟨b, 19, none⟩ = some (.slice x.q12.F x.q12.n x.q12.c) ∧ W.cell? ⟨g, 5, none⟩ = some (.func (.func 104) #[] #[])) := Lib.hid (fun W hW => by
    obtain ⟨-, -, -, -, -, -, -, -, -, -, -, -, -, -, -, -, -, p17, p18, p19, -⟩ := box_cells ((hW.block b hb).trans h.box)
    rw [hc0] at p17
    exact ⟨p17, p18, p19, (head_row ((hW.block g hcl).trans hc)).cell (i := 5) (by simp)⟩)
  have HFR : Hid (∀ W : World, Below w.heap.size w W → W.frozen? ⟨b, 17, none⟩ = false ∧ W.frozen? ⟨b, 18, none⟩ = false ∧ W.frozen? ⟨b, 19, none⟩ = false) := Lib.hid (fun W hW => ⟨box_free ((hW.block b hb).trans h.box) 17, box_free ((hW.block b hb).trans h.box) 18, box_free ((hW.block b hb).trans h.box) 19⟩)
  have HEND : Hid (∀ W F0 n0 d0 F1 n1 d1, Below w.heap.size w W → St12 W (s.resize n) (.slice F0 n0 d0) (.slice F1 n1 d1) → Ps w b m x (.lirs (s.resize n)) (((W.setCell ⟨b, 17, none⟩ (.int .i64 ((s.resize n).c : Nat))).setCell ⟨b, 18, none⟩ (.slice F0 n0 d0)).setCell ⟨b, 19, none⟩ (.slice F1 n1 d1)) ∧ ∀ o out, KV W o out → KV (((W.setCell ⟨b, 17, none⟩ (.int .i64 ((s.resize n).c : Nat))).setCell ⟨b, 18, none⟩ (.slice F0 n0 d0)).setCell ⟨b, 19, none⟩ (.slice F1 n1 d1)) o out) := Lib.hid (fun W F0 n0 d0 F1 n1 d1 hW hs => by
    obtain ⟨h1, h2⟩ := box_set12 ((h.below hW).box) ((s.resize n).c : Nat) F0 n0 d0 F1 n1 d1
    have h3 := (h.below hW).st.only h2 (h.below hW).bx
    exact ⟨⟨(Only.of_below hW).trans h2 (by simp), { x with c12 := ((s.resize n).c : Nat), s12 := ⟨F0, n0, d0⟩, q12 := ⟨F1, n1, d1⟩ }, rfl, ⟨h1, h.ty, ⟨⟨hp, rfl, ⟨hs.g1.only h2 (h.below hW).bx, hs.g2.only h2 (h.below hW).bx⟩⟩, h3.prs, h3.hi, h3.mi, h3.ev⟩⟩⟩, fun o out ho => ho.only h2 (h.below hW).bx⟩)
  have c0 : w.cell? ⟨g, 0, none⟩ = some (.func (.func 99) #[] #[]) := (head_row hc).cell (i := 0) (by simp)
  obtain ⟨k0, k1, k2, k3⟩ := HLD.out w (Below.refl _ _)
  have KT : Hid (∀ W, Below w.heap.size w W → Calls Tryz.prog 104 #[(.agg (l12C s.c (.slice x.s12.F x.s12.n x.s12.c) (.slice x.q12.F x.q12.n x.q12.c))), .int .i64 n] W (P12o W (s.resize n) (s.resizeOut n))) := Lib.hid (fun W hW => PO.resize (hst.below hW) ok n hn1 hn2)
  clear hst hc0 hp h hps hc
  go_enter Tryz.func203, Tryz.ntmps203
  go_wp2_with (go_at_call 99; refine HF.out.mono ?_; rintro e w1 ⟨rfl, rfl⟩)
  go_region_with (go_at_call 104; refine (KT.out _ (below_drewn (Below.refl _ _) _)).mono ?_; rintro e w5 ⟨u50, u51, o5, he, hb5, hk5, ho5⟩; obtain ⟨F50, n50, d50, rfl⟩ := hk5.form1; obtain ⟨F51, n51, d51, rfl⟩ := hk5.form2; subst he; have hbA := (below_drewn (Below.refl w1.heap.size w1) _).trans hb5; obtain ⟨z0, z1, z2⟩ := HFR.out w5 hbA; obtain ⟨k0, k1, k2, k3⟩ := HLD.out w5 hbA)
  all_goals
    go_wp2
    go_ret
    exact ⟨_, rfl, (HEND.out _ _ _ _ _ _ _ hbA hk5).1, (HEND.out _ _ _ _ _ _ _ hbA hk5).2 _ _ ho5⟩
end
end Go.Proofs.YtcpggonengkgiaaGreatDoor
