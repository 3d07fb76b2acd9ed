/- Words and walks: McVB12 McVC12 McVD12 McU12. -/
import Derived.Test.YtcpggonengkgiaaGreatDoorG35
import Derived.Test.YtcpggonengkgiaaGreatDoorG41
import Derived.Deep.RegionHeld3
import Derived.Laws.EntriesVeiled
/- The machine's calls of lirs. -/
namespace Go.Proofs.YtcpggonengkgiaaGreatDoor
open Go Go.RowKit Go.Deep
set_option maxRecDepth 8000
section
variable {w : World} {b g : Nat} {m : M13} {x : V13} {s : L12}
set_option maxHeartbeats 2000000 in
theorem has12c (PO : Pol12Ok) (hc : w.heap[g]? = some (.cells cl12C CT12 (0, 0))) (h : S13 w PT13 b m x) (hps : m.ps = .lirs s) (ok : s.Ok) (k : Nat) (hk : k < 18446744073709551616) :
    Calls Tryz.prog 209 #[.pointer (some ⟨b, 0, none⟩), .int .u64 (k : Nat), .pointer (some ⟨g, 0, none⟩)] w (RetB w (decide (k ∈ s.keys))) := by
  have hb := h.lt
  have hpol := h.st.pol
  rw [hps] at hpol
  obtain ⟨hp, hc0, hst⟩ := hpol
  have HF := Lib.hid (fld12 w b)
  have hcl := (head_row hc).lt
  have HLD : Hid (∀ W : World, Below w.heap.size w W → W.cell? ⟨b, 17, none⟩ = some (.int .i64 (s.c : Nat)) ∧ W.cell? ⟨b, 18, none⟩ = some (.slice x.s12.F x.s12.n x.s12.c) ∧ W.cell? ⟨b, 19, none⟩ = some (.slice x.q12.F x.q12.n x.q12.c) ∧ W.cell? ⟨g, 6, none⟩ = some (.func (.func 105) #[] #[])) := Lib.hid (fun W hW => by
    obtain ⟨-, -, -, -, -, -, -, -, -, -, -, -, -, -, -, -, -, p17, p18, p19, -⟩ := box_cells ((hW.block b hb).trans h.box)
    rw [hc0] at p17
    exact ⟨p17, p18, p19, (head_row ((hW.block g hcl).trans hc)).cell (i := 6) (by simp)⟩)
  have c0 : w.cell? ⟨g, 0, none⟩ = some (.func (.func 99) #[] #[]) := (head_row hc).cell (i := 0) (by simp)
  obtain ⟨k0, k1, k2, k3⟩ := HLD.out w (Below.refl _ _)
  have KT : Hid (∀ W, Below w.heap.size w W → Calls Tryz.prog 105 #[(.agg (l12C s.c (.slice x.s12.F x.s12.n x.s12.c) (.slice x.q12.F x.q12.n x.q12.c))), .int .u64 (k : Nat)] W (RetB W (decide (k ∈ s.keys)))) := Lib.hid (fun W hW => PO.has (hst.below hW) ok k hk)
  have HL5 : Hid (∀ W : World, Below w.heap.size w W → W.cell? ⟨b, 17, none⟩ = some (.int .i64 (s.c : Nat)) ∧ W.cell? ⟨b, 18, none⟩ = some (.slice x.s12.F x.s12.n x.s12.c) ∧ W.cell? ⟨b, 19, none⟩ = some (.slice x.q12.F x.q12.n x.q12.c) ∧ W.cell? ⟨g, 6, none⟩ = some (.func (.func 105) #[] #[]) ∧ W.cell? ⟨g, 0, none⟩ = some (.func (.func 99) #[] #[])) := Lib.hid (fun W hW => by
    obtain ⟨j0, j1, j2, j3⟩ := HLD.out W hW
    exact ⟨j0, j1, j2, j3, (head_row ((hW.block g hcl).trans hc)).cell (i := 0) (by simp)⟩)
  clear hst hc0 hp h hps hc
  go_enter Tryz.func209, Tryz.ntmps209
  go_wp2_with fail
  go_region_held3 (fun w' => w'.cell? ⟨b, 17, none⟩ = some (.int .i64 (s.c : Nat)) ∧ w'.cell? ⟨b, 18, none⟩ = some (.slice x.s12.F x.s12.n x.s12.c) ∧ w'.cell? ⟨b, 19, none⟩ = some (.slice x.q12.F x.q12.n x.q12.c) ∧ w'.cell? ⟨g, 6, none⟩ = some (.func (.func 105) #[] #[]) ∧ w'.cell? ⟨g, 0, none⟩ = some (.func (.func 99) #[] #[]))
    (first | with_reducible exact kk5 | go_keep)
    (first
    | (go_at_call 99; refine (fld12 _ b).mono ?_; rintro e w1 ⟨rfl, rfl⟩)
    | (go_at_call 105; refine (KT.out _ (below_drewn (Below.refl _ _) _)).mono ?_; rintro e w5 ⟨rfl, hb5⟩; have hbA := (below_drewn (Below.refl w.heap.size w) _).trans hb5; have kk5 := HL5.out w5 hbA))
  all_goals
    go_wp2
    go_ret
    exact ⟨rfl, hbA⟩
set_option maxHeartbeats 2000000 in
theorem keys12c (PO : Pol12Ok) (hc : w.heap[g]? = some (.cells cl12C CT12 (0, 0))) (h : S13 w PT13 b m x) (hps : m.ps = .lirs s) (ok : s.Ok)  :
    Calls Tryz.prog 210 #[.pointer (some ⟨b, 0, none⟩), .pointer (some ⟨g, 0, none⟩)] w (RetK w s.keys) := by
  have hb := h.lt
  have hpol := h.st.pol
  rw [hps] at hpol
  obtain ⟨hp, hc0, hst⟩ := hpol
  have HF := Lib.hid (fld12 w b)
  have hcl := (head_row hc).lt
  have HLD : Hid (∀ W : World, Below w.heap.size w W → W.cell? ⟨b, 17, none⟩ = some (.int .i64 (s.c : Nat)) ∧ W.cell? ⟨b, 18, none⟩ = some (.slice x.s12.F x.s12.n x.s12.c) ∧ W.cell? ⟨b, 19, none⟩ = some (.slice x.q12.F x.q12.n x.q12.c) ∧ W.cell? ⟨g, 7, none⟩ = some (.func (.func 106) #[] #[])) := Lib.hid (fun W hW => by
    obtain ⟨-, -, -, -, -, -, -, -, -, -, -, -, -, -, -, -, -, p17, p18, p19, -⟩ := box_cells ((hW.block b hb).trans h.box)
    rw [hc0] at p17
    exact ⟨p17, p18, p19, (head_row ((hW.block g hcl).trans hc)).cell (i := 7) (by simp)⟩)
  have c0 : w.cell? ⟨g, 0, none⟩ = some (.func (.func 99) #[] #[]) := (head_row hc).cell (i := 0) (by simp)
  obtain ⟨k0, k1, k2, k3⟩ := HLD.out w (Below.refl _ _)
  have KT : Hid (∀ W, Below w.heap.size w W → Calls Tryz.prog 106 #[(.agg (l12C s.c (.slice x.s12.F x.s12.n x.s12.c) (.slice x.q12.F x.q12.n x.q12.c)))] W (RetK W s.keys)) := Lib.hid (fun W hW => PO.keys (hst.below hW) ok)
  have HL5 : Hid (∀ W : World, Below w.heap.size w W → W.cell? ⟨b, 17, none⟩ = some (.int .i64 (s.c : Nat)) ∧ W.cell? ⟨b, 18, none⟩ = some (.slice x.s12.F x.s12.n x.s12.c) ∧ W.cell? ⟨b, 19, none⟩ = some (.slice x.q12.F x.q12.n x.q12.c) ∧ W.cell? ⟨g, 7, none⟩ = some (.func (.func 106) #[] #[]) ∧ W.cell? ⟨g, 0, none⟩ = some (.func (.func 99) #[] #[])) := Lib.hid (fun W hW => by
    obtain ⟨j0, j1, j2, j3⟩ := HLD.out W hW
    exact ⟨j0, j1, j2, j3, (head_row ((hW.block g hcl).trans hc)).cell (i := 0) (by simp)⟩)
  clear hst hc0 hp h hps hc
  go_enter Tryz.func210, Tryz.ntmps210
  go_wp2_with fail
  go_region_held3 (fun w' => w'.cell? ⟨b, 17, none⟩ = some (.int .i64 (s.c : Nat)) ∧ w'.cell? ⟨b, 18, none⟩ = some (.slice x.s12.F x.s12.n x.s12.c) ∧ w'.cell? ⟨b, 19, none⟩ = some (.slice x.q12.F x.q12.n x.q12.c) ∧ w'.cell? ⟨g, 7, none⟩ = some (.func (.func 106) #[] #[]) ∧ w'.cell? ⟨g, 0, none⟩ = some (.func (.func 99) #[] #[]))
    (first | with_reducible exact kk5 | go_keep)
    (first
    | (go_at_call 99; refine (fld12 _ b).mono ?_; rintro e w1 ⟨rfl, rfl⟩)
    | (go_at_call 106; refine (KT.out _ (below_drewn (Below.refl _ _) _)).mono ?_; rintro e w5 ⟨v5, rfl, hb5, hk5⟩; have hbA := (below_drewn (Below.refl w.heap.size w) _).trans hb5; have kk5 := HL5.out w5 hbA))
  all_goals
    go_wp2
    go_ret
    exact ⟨_, rfl, hbA, hk5⟩
set_option maxHeartbeats 2000000 in
theorem ghosts12c (PO : Pol12Ok) (hc : w.heap[g]? = some (.cells cl12C CT12 (0, 0))) (h : S13 w PT13 b m x) (hps : m.ps = .lirs s) (ok : s.Ok)  :
    Calls Tryz.prog 211 #[.pointer (some ⟨b, 0, none⟩), .pointer (some ⟨g, 0, none⟩)] w (fun e w' => e = .returned (.int .i64 (s.ghosts : Nat)) ∧ Below w.heap.size w w') := by
  have hb := h.lt
  have hpol := h.st.pol
  rw [hps] at hpol
  obtain ⟨hp, hc0, hst⟩ := hpol
  have HF := Lib.hid (fld12 w b)
  have hcl := (head_row hc).lt
  have HLD : Hid (∀ W : World, Below w.heap.size w W → W.cell? ⟨b, 17, none⟩ = some (.int .i64 (s.c : Nat)) ∧ W.cell? ⟨b, 18, none⟩ = some (.slice x.s12.F x.s12.n x.s12.c) ∧ W.cell? ⟨b, 19, none⟩ = some (.slice x.q12.F x.q12.n x.q12.c) ∧ W.cell? ⟨g, 8, none⟩ = some (.func (.func 107) #[] #[])) := Lib.hid (fun W hW => by
    obtain ⟨-, -, -, -, -, -, -, -, -, -, -, -, -, -, -, -, -, p17, p18, p19, -⟩ := box_cells ((hW.block b hb).trans h.box)
    rw [hc0] at p17
    exact ⟨p17, p18, p19, (head_row ((hW.block g hcl).trans hc)).cell (i := 8) (by simp)⟩)
  have c0 : w.cell? ⟨g, 0, none⟩ = some (.func (.func 99) #[] #[]) := (head_row hc).cell (i := 0) (by simp)
  obtain ⟨k0, k1, k2, k3⟩ := HLD.out w (Below.refl _ _)
  have KT : Hid (∀ W, Below w.heap.size w W → Calls Tryz.prog 107 #[(.agg (l12C s.c (.slice x.s12.F x.s12.n x.s12.c) (.slice x.q12.F x.q12.n x.q12.c)))] W (fun e w' => e = .returned (.int .i64 (s.ghosts : Nat)) ∧ Below W.heap.size W w')) := Lib.hid (fun W hW => PO.ghosts (hst.below hW) ok)
  have HL5 : Hid (∀ W : World, Below w.heap.size w W → W.cell? ⟨b, 17, none⟩ = some (.int .i64 (s.c : Nat)) ∧ W.cell? ⟨b, 18, none⟩ = some (.slice x.s12.F x.s12.n x.s12.c) ∧ W.cell? ⟨b, 19, none⟩ = some (.slice x.q12.F x.q12.n x.q12.c) ∧ W.cell? ⟨g, 8, none⟩ = some (.func (.func 107) #[] #[]) ∧ W.cell? ⟨g, 0, none⟩ = some (.func (.func 99) #[] #[])) := Lib.hid (fun W hW => by
    obtain ⟨j0, j1, j2, j3⟩ := HLD.out W hW
    exact ⟨j0, j1, j2, j3, (head_row ((hW.block g hcl).trans hc)).cell (i := 0) (by simp)⟩)
  clear hst hc0 hp h hps hc
  go_enter Tryz.func211, Tryz.ntmps211
  go_wp2_with fail
  go_region_held3 (fun w' => w'.cell? ⟨b, 17, none⟩ = some (.int .i64 (s.c : Nat)) ∧ w'.cell? ⟨b, 18, none⟩ = some (.slice x.s12.F x.s12.n x.s12.c) ∧ w'.cell? ⟨b, 19, none⟩ = some (.slice x.q12.F x.q12.n x.q12.c) ∧ w'.cell? ⟨g, 8, none⟩ = some (.func (.func 107) #[] #[]) ∧ w'.cell? ⟨g, 0, none⟩ = some (.func (.func 99) #[] #[]))
    (first | with_reducible exact kk5 | go_keep)
    (first
    | (go_at_call 99; refine (fld12 _ b).mono ?_; rintro e w1 ⟨rfl, rfl⟩)
    | (go_at_call 107; refine (KT.out _ (below_drewn (Below.refl _ _) _)).mono ?_; rintro e w5 ⟨rfl, hb5⟩; have hbA := (below_drewn (Below.refl w.heap.size w) _).trans hb5; have kk5 := HL5.out w5 hbA))
  all_goals
    go_wp2
    go_ret
    exact ⟨rfl, hbA⟩
set_option maxHeartbeats 2000000 in
theorem caps12c (hc : w.heap[g]? = some (.cells cl12C CT12 (0, 0))) (h : S13 w PT13 b m x) (hps : m.ps = .lirs s)  :
    Calls Tryz.prog 212 #[.pointer (some ⟨b, 0, none⟩), .pointer (some ⟨g, 0, none⟩)] w (fun e w' => e = .returned (.int .i64 (s.c : Nat)) ∧ Below w.heap.size w w') := by
  have hb := h.lt
  have hpol := h.st.pol
  rw [hps] at hpol
  obtain ⟨hp, hc0, hst⟩ := hpol
  have HF := Lib.hid (fld12 w b)
  have hcl := (head_row hc).lt
  have HLD : Hid (∀ W : World, Below w.heap.size w W → W.cell? ⟨b, 17, none⟩ = some (.int .i64 (s.c : Nat)) ∧ W.cell? ⟨b, 18, none⟩ = some (.slice x.s12.F x.s12.n x.s12.c) ∧ W.cell? ⟨b, 19, none⟩ = some (.slice x.q12.F x.q12.n x.q12.c) ∧ W.cell? ⟨g, 9, none⟩ = some (.func (.func 108) #[] #[])) := Lib.hid (fun W hW => by
    obtain ⟨-, -, -, -, -, -, -, -, -, -, -, -, -, -, -, -, -, p17, p18, p19, -⟩ := box_cells ((hW.block b hb).trans h.box)
    rw [hc0] at p17
    exact ⟨p17, p18, p19, (head_row ((hW.block g hcl).trans hc)).cell (i := 9) (by simp)⟩)
  have c0 : w.cell? ⟨g, 0, none⟩ = some (.func (.func 99) #[] #[]) := (head_row hc).cell (i := 0) (by simp)
  obtain ⟨k0, k1, k2, k3⟩ := HLD.out w (Below.refl _ _)
  have KT : Hid (∀ W, Below w.heap.size w W → Calls Tryz.prog 108 #[(.agg (l12C s.c (.slice x.s12.F x.s12.n x.s12.c) (.slice x.q12.F x.q12.n x.q12.c)))] W (fun e w' => e = .returned (.int .i64 (s.c : Nat)) ∧ Below W.heap.size W w')) := Lib.hid (fun W hW => cap12 W s _ _ (⟨(hst.below hW).form1, (hst.below hW).form2⟩))
  have HL5 : Hid (∀ W : World, Below w.heap.size w W → W.cell? ⟨b, 17, none⟩ = some (.int .i64 (s.c : Nat)) ∧ W.cell? ⟨b, 18, none⟩ = some (.slice x.s12.F x.s12.n x.s12.c) ∧ W.cell? ⟨b, 19, none⟩ = some (.slice x.q12.F x.q12.n x.q12.c) ∧ W.cell? ⟨g, 9, none⟩ = some (.func (.func 108) #[] #[]) ∧ W.cell? ⟨g, 0, none⟩ = some (.func (.func 99) #[] #[])) := Lib.hid (fun W hW => by
    obtain ⟨j0, j1, j2, j3⟩ := HLD.out W hW
    exact ⟨j0, j1, j2, j3, (head_row ((hW.block g hcl).trans hc)).cell (i := 0) (by simp)⟩)
  clear hst hc0 hp h hps hc
  go_enter Tryz.func212, Tryz.ntmps212
  go_wp2_with fail
  go_region_held3 (fun w' => w'.cell? ⟨b, 17, none⟩ = some (.int .i64 (s.c : Nat)) ∧ w'.cell? ⟨b, 18, none⟩ = some (.slice x.s12.F x.s12.n x.s12.c) ∧ w'.cell? ⟨b, 19, none⟩ = some (.slice x.q12.F x.q12.n x.q12.c) ∧ w'.cell? ⟨g, 9, none⟩ = some (.func (.func 108) #[] #[]) ∧ w'.cell? ⟨g, 0, none⟩ = some (.func (.func 99) #[] #[]))
    (first | with_reducible exact kk5 | go_keep)
    (first
    | (go_at_call 99; refine (fld12 _ b).mono ?_; rintro e w1 ⟨rfl, rfl⟩)
    | (go_at_call 108; refine (KT.out _ (below_drewn (Below.refl _ _) _)).mono ?_; rintro e w5 ⟨rfl, hb5⟩; have hbA := (below_drewn (Below.refl w.heap.size w) _).trans hb5; have kk5 := HL5.out w5 hbA))
  all_goals
    go_wp2
    go_ret
    exact ⟨rfl, hbA⟩
end
end Go.Proofs.YtcpggonengkgiaaGreatDoor
/- The machine's calls of lirs. -/
namespace Go.Proofs.YtcpggonengkgiaaGreatDoor
open Go Go.RowKit Go.Deep
set_option maxRecDepth 8000
section
variable {w : World} {b g : Nat} {m : M13} {x : V13} {s : L12}
set_option maxHeartbeats 4000000 in
theorem own12c (PO : Pol12Ok) (hc : w.heap[g]? = some (.cells cl12C CT12 (0, 0))) (h : S13 w PT13 b m x) (hps : m.ps = .lirs s) (ok : s.Ok) {g2 : Nat} (hr : w.heap[g2]? = some (.cells #[.func (.func 203) #[] #[.pointer (some ⟨g, 0, none⟩)]] RT13_12 (0, 0))) :
    Calls Tryz.prog 205 #[.pointer (some ⟨b, 0, none⟩), .pointer (some ⟨g2, 0, none⟩), .pointer (some ⟨g, 0, none⟩)] w fun e w' => e = .returned (.tuple #[]) ∧ Ps w b m x (.lirs s) w' := by
  have hb := h.lt
  have hpol := h.st.pol
  rw [hps] at hpol
  obtain ⟨hp, hc0, hst⟩ := hpol
  have hcl := (head_row hc).lt
  have hrl := (head_row hr).lt
  have HSS : Hid (∀ W : World, Below w.heap.size w W → W.cell? ⟨g2, 0, none⟩ = some (.func (.func 203) #[] #[.pointer (some ⟨g, 0, none⟩)]) ∧ W.cell? ⟨g, 0, none⟩ = some (.func (.func 99) #[] #[]) ∧ W.cell? ⟨g, 9, none⟩ = some (.func (.func 108) #[] #[])) := Lib.hid (fun W hW => by
    exact ⟨(head_row ((hW.block g2 hrl).trans hr)).cell (i := 0) (by simp), (head_row ((hW.block g hcl).trans hc)).cell (i := 0) (by simp), (head_row ((hW.block g hcl).trans hc)).cell (i := 9) (by simp)⟩)
  have KC : Hid (∀ W F0 n0 d0 F1 n1 d1, Calls Tryz.prog 108 #[.agg (l12C s.c (.slice F0 n0 d0) (.slice F1 n1 d1))] W (fun e w' => e = .returned (.int .i64 (s.c : Nat)) ∧ Below W.heap.size W w')) := Lib.hid (fun W F0 n0 d0 F1 n1 d1 => cap12 W s _ _ (⟨⟨F0, n0, d0, rfl⟩, ⟨F1, n1, d1, rfl⟩⟩))
  have hcap := ok.cap
  have KR : Hid (∀ W, Below w.heap.size w W → Calls Tryz.prog 203 #[.pointer (some ⟨b, 0, none⟩), .int .i64 (s.c : Nat), .pointer (some ⟨g, 0, none⟩)] W (fun e w' => ∃ v, e = .returned v ∧ Ps w b m x (.lirs s) w')) := Lib.hid (fun W hW => by
    refine (resize12c PO ((hW.block g hcl).trans hc) (h.below hW) hps ok (s.c : Nat) (by omega) (by omega)).mono ?_
    rintro e w' ⟨v, rfl, ⟨h1, x', h2, h3⟩, _⟩
    rw [(L12.own ok).1] at h3
    exact ⟨v, rfl, ⟨(Only.of_below hW).trans h1 (by simp), x', h2, h3⟩⟩)
  obtain ⟨k0, k1, k2⟩ := HSS.out w (Below.refl _ _)
  obtain ⟨-, -, -, -, -, -, -, -, -, -, -, -, -, -, -, -, -, p17, p18, p19, -⟩ := box_cells h.box
  rw [hc0] at p17
  clear hst hc0 hp h hps hc hr hcap
  go_enter Tryz.func205, Tryz.ntmps205
  go_wp2_with fail
  go_region_with (first | (go_at_call 99; refine (fld12 _ b).mono ?_; rintro e w1 ⟨rfl, rfl⟩) | (go_at_call 108; refine (KC.out _ _ _ _ _ _ _).mono ?_; rintro e w5 ⟨rfl, hb5⟩; have hbA := (below_drewn (Below.refl w.heap.size w) _).trans hb5; obtain ⟨k0, k1, k2⟩ := HSS.out w5 hbA) | (go_at_call 203; refine (KR.out _ hbA).mono ?_; rintro e w6 ⟨v6, rfl, hp6⟩))
  all_goals
    go_wp2
    go_end0
    exact ⟨rfl, hp6⟩
end
end Go.Proofs.YtcpggonengkgiaaGreatDoor
/- The machine's calls of lirs. -/
namespace Go.Proofs.YtcpggonengkgiaaGreatDoor
open Go Go.RowKit Go.Deep
set_option maxRecDepth 8000
section
variable {w : World} {b g : Nat} {m : M13} {x : V13} {s : L12}
set_option maxHeartbeats 4000000 in
theorem start12c (PO : Pol12Ok) (hc : w.heap[g]? = some (.cells cl12C CT12 (0, 0))) (h : w.heap[b]? = some (.cells x.C PT13 (0, 0))) (hp : x.p = 5) (n : Int) (hn1 : -9223372036854775808 ≤ n) (hn2 : n ≤ 9223372036854775807) :
    Calls Tryz.prog 204 #[.pointer (some ⟨b, 0, none⟩), .int .i64 n, .pointer (some ⟨g, 0, none⟩)] w fun e w' => e = .returned (.tuple #[]) ∧ Only [b] w w' ∧ ∃ x' : V13, x'.pr = x.pr ∧ x'.p = x.p ∧ x'.hi = x.hi ∧ x'.mi = x.mi ∧ x'.ev = x.ev ∧ w'.heap[b]? = some (.cells x'.C PT13 (0, 0)) ∧ PolIn w' x' (.lirs (L12.new n)) := by
  have hb := (head_row h).lt
  have hcl := (head_row hc).lt
  have KT : Hid (∀ W, Below w.heap.size w W → Calls Tryz.prog 100 #[.int .i64 n] W (P12 W (L12.new n))) := Lib.hid (fun W _ => PO.new W n hn1 hn2)
  have HLD : Hid (∀ W : World, Below w.heap.size w W → W.cell? ⟨g, 0, none⟩ = some (.func (.func 99) #[] #[]) ∧ W.cell? ⟨g, 1, none⟩ = some (.func (.func 100) #[] #[])) := Lib.hid (fun W hW => ⟨(head_row ((hW.block g hcl).trans hc)).cell (i := 0) (by simp), (head_row ((hW.block g hcl).trans hc)).cell (i := 1) (by simp)⟩)
  have HFR : Hid (∀ W : World, Below w.heap.size w W → (W.frozen? ⟨b, 17, none⟩ = false ∧ W.frozen? ⟨b, 18, none⟩ = false ∧ W.frozen? ⟨b, 19, none⟩ = false) ∧ ∃ v17 v18 v19, W.cell? ⟨b, 17, none⟩ = some v17 ∧ W.cell? ⟨b, 18, none⟩ = some v18 ∧ W.cell? ⟨b, 19, none⟩ = some v19) := Lib.hid (fun W hW => by
    obtain ⟨-, -, -, -, -, -, -, -, -, -, -, -, -, -, -, -, -, p17, p18, p19, -⟩ := box_cells ((hW.block b hb).trans h)
    exact ⟨⟨box_free ((hW.block b hb).trans h) 17, box_free ((hW.block b hb).trans h) 18, box_free ((hW.block b hb).trans h) 19⟩, _, _, _, p17, p18, p19⟩)
  obtain ⟨k0, k1⟩ := HLD.out w (Below.refl _ _)
  have HEND : Hid (∀ W F0 n0 d0 F1 n1 d1, Below w.heap.size w W → St12 W (L12.new n) (.slice F0 n0 d0) (.slice F1 n1 d1) → Only [b] w (((W.setCell ⟨b, 17, none⟩ (.int .i64 ((L12.new n).c : Nat))).setCell ⟨b, 18, none⟩ (.slice F0 n0 d0)).setCell ⟨b, 19, none⟩ (.slice F1 n1 d1)) ∧ ∃ x' : V13, x'.pr = x.pr ∧ x'.p = x.p ∧ x'.hi = x.hi ∧ x'.mi = x.mi ∧ x'.ev = x.ev ∧ ((((W.setCell ⟨b, 17, none⟩ (.int .i64 ((L12.new n).c : Nat))).setCell ⟨b, 18, none⟩ (.slice F0 n0 d0)).setCell ⟨b, 19, none⟩ (.slice F1 n1 d1))).heap[b]? = some (.cells x'.C PT13 (0, 0)) ∧ PolIn (((W.setCell ⟨b, 17, none⟩ (.int .i64 ((L12.new n).c : Nat))).setCell ⟨b, 18, none⟩ (.slice F0 n0 d0)).setCell ⟨b, 19, none⟩ (.slice F1 n1 d1)) x' (.lirs (L12.new n))) := Lib.hid (fun W F0 n0 d0 F1 n1 d1 hW hs => by
    have hbx : ∀ j ∈ [b], Bx W j := fun j hj => by
      have e : j = b := by simpa using hj
      rw [e]
      exact ⟨_, _, (hW.block b hb).trans h, x.nou, by decide⟩
    obtain ⟨h1, h2⟩ := box_set12 ((hW.block b hb).trans h) ((L12.new n).c : Nat) F0 n0 d0 F1 n1 d1
    exact ⟨(Only.of_below hW).trans h2 (by simp), { x with c12 := ((L12.new n).c : Nat), s12 := ⟨F0, n0, d0⟩, q12 := ⟨F1, n1, d1⟩ }, rfl, rfl, rfl, rfl, rfl, h1, ⟨hp, rfl, ⟨hs.g1.only h2 hbx, hs.g2.only h2 hbx⟩⟩⟩)
  clear h hc hp
  go_enter Tryz.func204, Tryz.ntmps204
  go_wp2_with fail
  go_region_with (first | (go_at_call 99; refine (fld12 _ b).mono ?_; rintro e w1 ⟨rfl, rfl⟩) | (go_at_call 100; refine (KT.out _ (below_drewn (Below.refl _ _) _)).mono ?_; rintro e w5 ⟨u50, u51, rfl, hb5, hk5⟩; obtain ⟨F50, n50, d50, rfl⟩ := hk5.form1; obtain ⟨F51, n51, d51, rfl⟩ := hk5.form2; have hbA := (below_drewn (Below.refl w.heap.size w) _).trans hb5; obtain ⟨k0, k1⟩ := HLD.out w5 hbA; obtain ⟨⟨z0, z1, z2⟩, y17, y18, y19, y'17, y'18, y'19⟩ := HFR.out w5 hbA))
  all_goals
    go_wp2
    go_end0
    exact ⟨rfl, HEND.out _ _ _ _ _ _ _ hbA hk5⟩
end
end Go.Proofs.YtcpggonengkgiaaGreatDoor
/- The machine's calls of lirs, packed. -/
namespace Go.Proofs.YtcpggonengkgiaaGreatDoor
open Go Go.RowKit Go.Deep
set_option maxRecDepth 8000
abbrev pf12 (g g2 : Nat) : PolF := ⟨204, 205, 206, 207, 208, 203, 209, 210, 211, 212, #[.pointer (some ⟨g, 0, none⟩)], #[.pointer (some ⟨g2, 0, none⟩), .pointer (some ⟨g, 0, none⟩)], #[.pointer (some ⟨g, 0, none⟩)], #[.pointer (some ⟨g, 0, none⟩)], #[.pointer (some ⟨g, 0, none⟩)], #[.pointer (some ⟨g, 0, none⟩)], #[.pointer (some ⟨g, 0, none⟩)], #[.pointer (some ⟨g, 0, none⟩)], #[.pointer (some ⟨g, 0, none⟩)], #[.pointer (some ⟨g, 0, none⟩)]⟩
def Iv12 (g g2 : Nat) (W : World) : Prop := W.heap[g]? = some (.cells cl12C CT12 (0, 0)) ∧ W.heap[g2]? = some (.cells #[.func (.func 203) #[] #[.pointer (some ⟨g, 0, none⟩)]] RT13_12 (0, 0))
theorem is12 {m : M13} (h : m.ps.tag = 5) : ∃ s, m.ps = .lirs s := by
  cases hp : m.ps with
  | lru s => rw [hp] at h; cases h
  | twoq s => rw [hp] at h; cases h
  | sthree s => rw [hp] at h; cases h
  | arc s => rw [hp] at h; cases h
  | lirs s => exact ⟨s, rfl⟩
theorem polv12 (PO : Pol12Ok) (g g2 : Nat) : PolV (pf12 g g2) 5 [g, g2] (Iv12 g g2) where
  e0 := fun args W => by kernel_rfl
  e1 := fun args W => by kernel_rfl
  e2 := fun args W => by kernel_rfl
  e3 := fun args W => by kernel_rfl
  e4 := fun args W => by kernel_rfl
  e5 := fun args W => by kernel_rfl
  e6 := fun args W => by kernel_rfl
  e7 := fun args W => by kernel_rfl
  e8 := fun args W => by kernel_rfl
  e9 := fun args W => by kernel_rfl
  typ := fun W h k hk => by
    simp only [List.mem_cons, List.not_mem_nil, or_false] at hk
    rcases hk with rfl | rfl
    · exact ⟨_, _, h.1, by decide, by decide⟩
    · exact ⟨_, _, h.2, by decide, by decide⟩
  stay := fun W W' h hk => ⟨(hk g (by simp)).trans h.1, (hk g2 (by simp)).trans h.2⟩
  own := fun {W b m x} hi hs ht ok => by
    obtain ⟨s, hps⟩ := is12 ht
    have ok2 : s.Ok := by
      have h := ok
      rw [hps] at h
      exact h
    rw [hps]
    exact own12c PO hi.1 hs hps ok2 hi.2
  touch := fun {W b m x} hi hs ht ok k hk => by
    obtain ⟨s, hps⟩ := is12 ht
    have ok2 : s.Ok := by
      have h := ok
      rw [hps] at h
      exact h
    rw [hps]
    exact touch12c PO hi.1 hs hps ok2 k hk
  adm := fun {W b m x} hi hs ht ok k hk => by
    obtain ⟨s, hps⟩ := is12 ht
    have ok2 : s.Ok := by
      have h := ok
      rw [hps] at h
      exact h
    rw [hps]
    exact adm12c PO hi.1 hs hps ok2 k hk
  drop := fun {W b m x} hi hs ht ok k hk => by
    obtain ⟨s, hps⟩ := is12 ht
    have ok2 : s.Ok := by
      have h := ok
      rw [hps] at h
      exact h
    rw [hps]
    exact drop12c PO hi.1 hs hps ok2 k hk
  rsz := fun {W b m x} hi hs ht ok n h1 h2 => by
    obtain ⟨s, hps⟩ := is12 ht
    have ok2 : s.Ok := by
      have h := ok
      rw [hps] at h
      exact h
    rw [hps]
    exact resize12c PO hi.1 hs hps ok2 n h1 h2
  has := fun {W b m x} hi hs ht ok k hk => by
    obtain ⟨s, hps⟩ := is12 ht
    have ok2 : s.Ok := by
      have h := ok
      rw [hps] at h
      exact h
    rw [hps]
    exact has12c PO hi.1 hs hps ok2 k hk
  keys := fun {W b m x} hi hs ht ok => by
    obtain ⟨s, hps⟩ := is12 ht
    have ok2 : s.Ok := by
      have h := ok
      rw [hps] at h
      exact h
    rw [hps]
    exact keys12c PO hi.1 hs hps ok2
  gho := fun {W b m x} hi hs ht ok => by
    obtain ⟨s, hps⟩ := is12 ht
    have ok2 : s.Ok := by
      have h := ok
      rw [hps] at h
      exact h
    rw [hps]
    exact ghosts12c PO hi.1 hs hps ok2
  cap := fun {W b m x} hi hs ht ok => by
    obtain ⟨s, hps⟩ := is12 ht
    rw [hps]
    exact caps12c hi.1 hs hps
theorem pols12 (PO : Pol12Ok) (g g2 : Nat) : PolS (pf12 g g2) 5 (Iv12 g g2) := ⟨fun {_ _ _} hi hb hp n h1 h2 => start12c PO hi.1 hb hp n h1 h2⟩
set_option maxHeartbeats 2000000 in
theorem over12_walk (w : World) : Calls Tryz.prog 98 #[.agg cl12C] w fun e w' => e = .returned (.agg (pf12 w.heap.size (w.heap.size + 1 + 1)).C) ∧ Below w.heap.size w w' ∧ Iv12 w.heap.size (w.heap.size + 1 + 1) w' := by
  have hmf : ∀ (fn : Fn) (first cap : Array Value) (w : World), (Instr.makeFunc fn first cap).run Tryz.prog w = .ok (.func fn first cap) w := fun _ _ _ _ => rfl
  go_enter Tryz.func98, Tryz.ntmps98
  go_wp2_with fail
  refine bodyPost_ret (v := .agg (pf12 w.heap.size (w.heap.size + 1 + 1)).C) (by simp [results, Tryz.results98, go_sem]) rfl ⟨rfl, (low_two w _ _).alloc (by simp; omega) _, ?_, ?_⟩
  · rw [Below.heap_alloc _ _ _ (by simp; omega), Below.heap_alloc _ _ _ (by simp)]
    exact heap_alloc_new w _
  · have := heap_alloc_new ((w.alloc (.cells cl12C CT12)).alloc (.cells (pf12 w.heap.size (w.heap.size + 1 + 1)).C PolT)) (.cells #[.func (.func 203) #[] #[.pointer (some ⟨w.heap.size, 0, none⟩)]] RT13_12)
    simpa using this
set_option maxHeartbeats 2000000 in
theorem policyOf12_walk (w : World) : Calls Tryz.prog 28 #[.int .i64 5] w fun e w' => e = .returned (.tuple #[.agg (pf12 (w.heap.size + 1) (w.heap.size + 1 + 1 + 1)).C, .bool true]) ∧ Below w.heap.size w w' ∧ Iv12 (w.heap.size + 1) (w.heap.size + 1 + 1 + 1) w' := by
  have HO := Lib.hid (over12_walk (w.alloc (.cells #[.nilFunc, .nilFunc, .nilFunc, .nilFunc, .nilFunc, .nilFunc, .nilFunc, .nilFunc, .nilFunc, .nilFunc] PolT)))
  have hr := heap_alloc_new w (.cells #[.nilFunc, .nilFunc, .nilFunc, .nilFunc, .nilFunc, .nilFunc, .nilFunc, .nilFunc, .nilFunc, .nilFunc] PolT)
  have HR := Lib.hid hr
  have HL := Lib.hid (low_one w (.cells #[.nilFunc, .nilFunc, .nilFunc, .nilFunc, .nilFunc, .nilFunc, .nilFunc, .nilFunc, .nilFunc, .nilFunc] PolT))
  clear hr
  go_enter Tryz.func28, Tryz.ntmps28
  go_wp2_with fail
  refine HO.out.mono ?_
  rintro e w2 ⟨rfl, hb2, hi2⟩
  simp only [World.size_alloc] at hi2
  have hr2 := (hb2.block _ (head_row HR.out).lt).trans HR.out
  have HEND : Hid (∀ W, Only [w.heap.size] w2 W → Below w.heap.size w W ∧ Iv12 (w.heap.size + 1) (w.heap.size + 1 + 1 + 1) W) := Lib.hid (fun W ho => by
    have h3 := hb2.size
    simp only [World.size_alloc] at h3
    refine ⟨(HL.out.trans (hb2.mono HL.out.size)).trans (ho.below (by simp) (by omega)), (ho.block _ (head_row hi2.1).lt (by simp)).trans hi2.1, (ho.block _ (head_row hi2.2).lt (by simp; omega)).trans hi2.2⟩)
  obtain ⟨⟨z0, z1, z2, z3, z4, z5, z6, z7, z8, z9⟩, zf⟩ := c10_at hr2
  have zf0 := zf 0
  have zf1 := zf 1
  have zf2 := zf 2
  have zf3 := zf 3
  have zf4 := zf 4
  have zf5 := zf 5
  have zf6 := zf 6
  have zf7 := zf 7
  have zf8 := zf 8
  have zf9 := zf 9
  clear hb2 hi2 hr2 HO HR HL zf
  simp only [World.size_alloc]
  go_wp2_with fail
  refine bodyPost_ret (v := .tuple #[.agg (pf12 (w.heap.size + 1) (w.heap.size + 1 + 1 + 1)).C, .bool true]) (by simp [results, Tryz.results28, go_sem, z0, z1, z2, z3, z4, z5, z6, z7, z8, z9]) rfl ⟨rfl, HEND.out _ ((((((((((((Only.refl _ _).setCell (by simp) _).setCell (by simp) _).setCell (by simp) _).setCell (by simp) _).setCell (by simp) _).setCell (by simp) _).setCell (by simp) _).setCell (by simp) _).setCell (by simp) _).setCell (by simp) _))⟩
end Go.Proofs.YtcpggonengkgiaaGreatDoor
