/- Words and walks: McVB10 McVC10 McVD10 McU10. -/
import Derived.Test.YtcpggonengkgiaaGreatDoorG35
import Derived.Test.YtcpggonengkgiaaGreatDoorG38
import Derived.Deep.RegionHeld3
import Derived.Laws.EntriesVeiled
/- The machine's calls of sthree. -/
namespace Go.Proofs.YtcpggonengkgiaaGreatDoor
open Go Go.RowKit Go.Deep
set_option maxRecDepth 8000
section
variable {w : World} {b g : Nat} {m : M13} {x : V13} {s : L10}
set_option maxHeartbeats 2000000 in
theorem has10c (PO : Pol10Ok) (hc : w.heap[g]? = some (.cells cl10C CT10 (0, 0))) (h : S13 w PT13 b m x) (hps : m.ps = .sthree s) (ok : s.Ok) (k : Nat) (hk : k < 18446744073709551616) :
    Calls Tryz.prog 169 #[.pointer (some ⟨b, 0, none⟩), .int .u64 (k : Nat), .pointer (some ⟨g, 0, none⟩)] w (RetB w (decide (k ∈ s.keys))) := by
  have hb := h.lt
  have hpol := h.st.pol
  rw [hps] at hpol
  obtain ⟨hp, hc0, hst⟩ := hpol
  have HF := Lib.hid (fld10 w b)
  have hcl := (head_row hc).lt
  have HLD : Hid (∀ W : World, Below w.heap.size w W → W.cell? ⟨b, 7, none⟩ = some (.int .i64 (s.c : Nat)) ∧ W.cell? ⟨b, 8, none⟩ = some (.slice x.s10.F x.s10.n x.s10.c) ∧ W.cell? ⟨b, 9, none⟩ = some (.slice x.m10.F x.m10.n x.m10.c) ∧ W.cell? ⟨b, 10, none⟩ = some (.slice x.g10.F x.g10.n x.g10.c) ∧ W.cell? ⟨g, 6, none⟩ = some (.func (.func 83) #[] #[])) := Lib.hid (fun W hW => by
    obtain ⟨-, -, -, -, -, -, -, p7, p8, p9, p10, -⟩ := box_cells ((hW.block b hb).trans h.box)
    rw [hc0] at p7
    exact ⟨p7, p8, p9, p10, (head_row ((hW.block g hcl).trans hc)).cell (i := 6) (by simp)⟩)
  have c0 : w.cell? ⟨g, 0, none⟩ = some (.func (.func 77) #[] #[]) := (head_row hc).cell (i := 0) (by simp)
  obtain ⟨k0, k1, k2, k3, k4⟩ := HLD.out w (Below.refl _ _)
  have KT : Hid (∀ W, Below w.heap.size w W → Calls Tryz.prog 83 #[(.agg (l10C s.c (.slice x.s10.F x.s10.n x.s10.c) (.slice x.m10.F x.m10.n x.m10.c) (.slice x.g10.F x.g10.n x.g10.c))), .int .u64 (k : Nat)] W (RetB W (decide (k ∈ s.keys)))) := Lib.hid (fun W hW => PO.has (hst.below hW) ok k hk)
  have HL5 : Hid (∀ W : World, Below w.heap.size w W → W.cell? ⟨b, 7, none⟩ = some (.int .i64 (s.c : Nat)) ∧ W.cell? ⟨b, 8, none⟩ = some (.slice x.s10.F x.s10.n x.s10.c) ∧ W.cell? ⟨b, 9, none⟩ = some (.slice x.m10.F x.m10.n x.m10.c) ∧ W.cell? ⟨b, 10, none⟩ = some (.slice x.g10.F x.g10.n x.g10.c) ∧ W.cell? ⟨g, 6, none⟩ = some (.func (.func 83) #[] #[]) ∧ W.cell? ⟨g, 0, none⟩ = some (.func (.func 77) #[] #[])) := Lib.hid (fun W hW => by
    obtain ⟨j0, j1, j2, j3, j4⟩ := HLD.out W hW
    exact ⟨j0, j1, j2, j3, j4, (head_row ((hW.block g hcl).trans hc)).cell (i := 0) (by simp)⟩)
  clear hst hc0 hp h hps hc
  go_enter Tryz.func169, Tryz.ntmps169
  go_wp2_with fail
  go_region_held3 (fun w' => w'.cell? ⟨b, 7, none⟩ = some (.int .i64 (s.c : Nat)) ∧ w'.cell? ⟨b, 8, none⟩ = some (.slice x.s10.F x.s10.n x.s10.c) ∧ w'.cell? ⟨b, 9, none⟩ = some (.slice x.m10.F x.m10.n x.m10.c) ∧ w'.cell? ⟨b, 10, none⟩ = some (.slice x.g10.F x.g10.n x.g10.c) ∧ w'.cell? ⟨g, 6, none⟩ = some (.func (.func 83) #[] #[]) ∧ w'.cell? ⟨g, 0, none⟩ = some (.func (.func 77) #[] #[]))
    (first | with_reducible exact kk5 | go_keep)
    (first
    | (go_at_call 77; refine (fld10 _ b).mono ?_; rintro e w1 ⟨rfl, rfl⟩)
    | (go_at_call 83; refine (KT.out _ (below_drewn (Below.refl _ _) _)).mono ?_; rintro e w5 ⟨rfl, hb5⟩; have hbA := (below_drewn (Below.refl w.heap.size w) _).trans hb5; have kk5 := HL5.out w5 hbA))
  all_goals
    go_wp2
    go_ret
    exact ⟨rfl, hbA⟩
set_option maxHeartbeats 2000000 in
theorem keys10c (PO : Pol10Ok) (hc : w.heap[g]? = some (.cells cl10C CT10 (0, 0))) (h : S13 w PT13 b m x) (hps : m.ps = .sthree s) (ok : s.Ok)  :
    Calls Tryz.prog 170 #[.pointer (some ⟨b, 0, none⟩), .pointer (some ⟨g, 0, none⟩)] w (RetK w s.keys) := by
  have hb := h.lt
  have hpol := h.st.pol
  rw [hps] at hpol
  obtain ⟨hp, hc0, hst⟩ := hpol
  have HF := Lib.hid (fld10 w b)
  have hcl := (head_row hc).lt
  have HLD : Hid (∀ W : World, Below w.heap.size w W → W.cell? ⟨b, 7, none⟩ = some (.int .i64 (s.c : Nat)) ∧ W.cell? ⟨b, 8, none⟩ = some (.slice x.s10.F x.s10.n x.s10.c) ∧ W.cell? ⟨b, 9, none⟩ = some (.slice x.m10.F x.m10.n x.m10.c) ∧ W.cell? ⟨b, 10, none⟩ = some (.slice x.g10.F x.g10.n x.g10.c) ∧ W.cell? ⟨g, 7, none⟩ = some (.func (.func 84) #[] #[])) := Lib.hid (fun W hW => by
    obtain ⟨-, -, -, -, -, -, -, p7, p8, p9, p10, -⟩ := box_cells ((hW.block b hb).trans h.box)
    rw [hc0] at p7
    exact ⟨p7, p8, p9, p10, (head_row ((hW.block g hcl).trans hc)).cell (i := 7) (by simp)⟩)
  have c0 : w.cell? ⟨g, 0, none⟩ = some (.func (.func 77) #[] #[]) := (head_row hc).cell (i := 0) (by simp)
  obtain ⟨k0, k1, k2, k3, k4⟩ := HLD.out w (Below.refl _ _)
  have KT : Hid (∀ W, Below w.heap.size w W → Calls Tryz.prog 84 #[(.agg (l10C s.c (.slice x.s10.F x.s10.n x.s10.c) (.slice x.m10.F x.m10.n x.m10.c) (.slice x.g10.F x.g10.n x.g10.c)))] W (RetK W s.keys)) := Lib.hid (fun W hW => PO.keys (hst.below hW) ok)
  have HL5 : Hid (∀ W : World, Below w.heap.size w W → W.cell? ⟨b, 7, none⟩ = some (.int .i64 (s.c : Nat)) ∧ W.cell? ⟨b, 8, none⟩ = some (.slice x.s10.F x.s10.n x.s10.c) ∧ W.cell? ⟨b, 9, none⟩ = some (.slice x.m10.F x.m10.n x.m10.c) ∧ W.cell? ⟨b, 10, none⟩ = some (.slice x.g10.F x.g10.n x.g10.c) ∧ W.cell? ⟨g, 7, none⟩ = some (.func (.func 84) #[] #[]) ∧ W.cell? ⟨g, 0, none⟩ = some (.func (.func 77) #[] #[])) := Lib.hid (fun W hW => by
    obtain ⟨j0, j1, j2, j3, j4⟩ := HLD.out W hW
    exact ⟨j0, j1, j2, j3, j4, (head_row ((hW.block g hcl).trans hc)).cell (i := 0) (by simp)⟩)
  clear hst hc0 hp h hps hc
  go_enter Tryz.func170, Tryz.ntmps170
  go_wp2_with fail
  go_region_held3 (fun w' => w'.cell? ⟨b, 7, none⟩ = some (.int .i64 (s.c : Nat)) ∧ w'.cell? ⟨b, 8, none⟩ = some (.slice x.s10.F x.s10.n x.s10.c) ∧ w'.cell? ⟨b, 9, none⟩ = some (.slice x.m10.F x.m10.n x.m10.c) ∧ w'.cell? ⟨b, 10, none⟩ = some (.slice x.g10.F x.g10.n x.g10.c) ∧ w'.cell? ⟨g, 7, none⟩ = some (.func (.func 84) #[] #[]) ∧ w'.cell? ⟨g, 0, none⟩ = some (.func (.func 77) #[] #[]))
    (first | with_reducible exact kk5 | go_keep)
    (first
    | (go_at_call 77; refine (fld10 _ b).mono ?_; rintro e w1 ⟨rfl, rfl⟩)
    | (go_at_call 84; refine (KT.out _ (below_drewn (Below.refl _ _) _)).mono ?_; rintro e w5 ⟨v5, rfl, hb5, hk5⟩; have hbA := (below_drewn (Below.refl w.heap.size w) _).trans hb5; have kk5 := HL5.out w5 hbA))
  all_goals
    go_wp2
    go_ret
    exact ⟨_, rfl, hbA, hk5⟩
set_option maxHeartbeats 2000000 in
theorem ghosts10c (PO : Pol10Ok) (hc : w.heap[g]? = some (.cells cl10C CT10 (0, 0))) (h : S13 w PT13 b m x) (hps : m.ps = .sthree s) (ok : s.Ok)  :
    Calls Tryz.prog 171 #[.pointer (some ⟨b, 0, none⟩), .pointer (some ⟨g, 0, none⟩)] w (fun e w' => e = .returned (.int .i64 (s.ghosts : Nat)) ∧ Below w.heap.size w w') := by
  have hb := h.lt
  have hpol := h.st.pol
  rw [hps] at hpol
  obtain ⟨hp, hc0, hst⟩ := hpol
  have HF := Lib.hid (fld10 w b)
  have hcl := (head_row hc).lt
  have HLD : Hid (∀ W : World, Below w.heap.size w W → W.cell? ⟨b, 7, none⟩ = some (.int .i64 (s.c : Nat)) ∧ W.cell? ⟨b, 8, none⟩ = some (.slice x.s10.F x.s10.n x.s10.c) ∧ W.cell? ⟨b, 9, none⟩ = some (.slice x.m10.F x.m10.n x.m10.c) ∧ W.cell? ⟨b, 10, none⟩ = some (.slice x.g10.F x.g10.n x.g10.c) ∧ W.cell? ⟨g, 8, none⟩ = some (.func (.func 85) #[] #[])) := Lib.hid (fun W hW => by
    obtain ⟨-, -, -, -, -, -, -, p7, p8, p9, p10, -⟩ := box_cells ((hW.block b hb).trans h.box)
    rw [hc0] at p7
    exact ⟨p7, p8, p9, p10, (head_row ((hW.block g hcl).trans hc)).cell (i := 8) (by simp)⟩)
  have c0 : w.cell? ⟨g, 0, none⟩ = some (.func (.func 77) #[] #[]) := (head_row hc).cell (i := 0) (by simp)
  obtain ⟨k0, k1, k2, k3, k4⟩ := HLD.out w (Below.refl _ _)
  have KT : Hid (∀ W, Below w.heap.size w W → Calls Tryz.prog 85 #[(.agg (l10C s.c (.slice x.s10.F x.s10.n x.s10.c) (.slice x.m10.F x.m10.n x.m10.c) (.slice x.g10.F x.g10.n x.g10.c)))] W (fun e w' => e = .returned (.int .i64 (s.ghosts : Nat)) ∧ Below W.heap.size W w')) := Lib.hid (fun W hW => PO.ghosts (hst.below hW) ok)
  have HL5 : Hid (∀ W : World, Below w.heap.size w W → W.cell? ⟨b, 7, none⟩ = some (.int .i64 (s.c : Nat)) ∧ W.cell? ⟨b, 8, none⟩ = some (.slice x.s10.F x.s10.n x.s10.c) ∧ W.cell? ⟨b, 9, none⟩ = some (.slice x.m10.F x.m10.n x.m10.c) ∧ W.cell? ⟨b, 10, none⟩ = some (.slice x.g10.F x.g10.n x.g10.c) ∧ W.cell? ⟨g, 8, none⟩ = some (.func (.func 85) #[] #[]) ∧ W.cell? ⟨g, 0, none⟩ = some (.func (.func 77) #[] #[])) := Lib.hid (fun W hW => by
    obtain ⟨j0, j1, j2, j3, j4⟩ := HLD.out W hW
    exact ⟨j0, j1, j2, j3, j4, (head_row ((hW.block g hcl).trans hc)).cell (i := 0) (by simp)⟩)
  clear hst hc0 hp h hps hc
  go_enter Tryz.func171, Tryz.ntmps171
  go_wp2_with fail
  go_region_held3 (fun w' => w'.cell? ⟨b, 7, none⟩ = some (.int .i64 (s.c : Nat)) ∧ w'.cell? ⟨b, 8, none⟩ = some (.slice x.s10.F x.s10.n x.s10.c) ∧ w'.cell? ⟨b, 9, none⟩ = some (.slice x.m10.F x.m10.n x.m10.c) ∧ w'.cell? ⟨b, 10, none⟩ = some (.slice x.g10.F x.g10.n x.g10.c) ∧ w'.cell? ⟨g, 8, none⟩ = some (.func (.func 85) #[] #[]) ∧ w'.cell? ⟨g, 0, none⟩ = some (.func (.func 77) #[] #[]))
    (first | with_reducible exact kk5 | go_keep)
    (first
    | (go_at_call 77; refine (fld10 _ b).mono ?_; rintro e w1 ⟨rfl, rfl⟩)
    | (go_at_call 85; refine (KT.out _ (below_drewn (Below.refl _ _) _)).mono ?_; rintro e w5 ⟨rfl, hb5⟩; have hbA := (below_drewn (Below.refl w.heap.size w) _).trans hb5; have kk5 := HL5.out w5 hbA))
  all_goals
    go_wp2
    go_ret
    exact ⟨rfl, hbA⟩
set_option maxHeartbeats 2000000 in
theorem caps10c (hc : w.heap[g]? = some (.cells cl10C CT10 (0, 0))) (h : S13 w PT13 b m x) (hps : m.ps = .sthree s)  :
    Calls Tryz.prog 172 #[.pointer (some ⟨b, 0, none⟩), .pointer (some ⟨g, 0, none⟩)] w (fun e w' => e = .returned (.int .i64 (s.c : Nat)) ∧ Below w.heap.size w w') := by
  have hb := h.lt
  have hpol := h.st.pol
  rw [hps] at hpol
  obtain ⟨hp, hc0, hst⟩ := hpol
  have HF := Lib.hid (fld10 w b)
  have hcl := (head_row hc).lt
  have HLD : Hid (∀ W : World, Below w.heap.size w W → W.cell? ⟨b, 7, none⟩ = some (.int .i64 (s.c : Nat)) ∧ W.cell? ⟨b, 8, none⟩ = some (.slice x.s10.F x.s10.n x.s10.c) ∧ W.cell? ⟨b, 9, none⟩ = some (.slice x.m10.F x.m10.n x.m10.c) ∧ W.cell? ⟨b, 10, none⟩ = some (.slice x.g10.F x.g10.n x.g10.c) ∧ W.cell? ⟨g, 9, none⟩ = some (.func (.func 86) #[] #[])) := Lib.hid (fun W hW => by
    obtain ⟨-, -, -, -, -, -, -, p7, p8, p9, p10, -⟩ := box_cells ((hW.block b hb).trans h.box)
    rw [hc0] at p7
    exact ⟨p7, p8, p9, p10, (head_row ((hW.block g hcl).trans hc)).cell (i := 9) (by simp)⟩)
  have c0 : w.cell? ⟨g, 0, none⟩ = some (.func (.func 77) #[] #[]) := (head_row hc).cell (i := 0) (by simp)
  obtain ⟨k0, k1, k2, k3, k4⟩ := HLD.out w (Below.refl _ _)
  have KT : Hid (∀ W, Below w.heap.size w W → Calls Tryz.prog 86 #[(.agg (l10C s.c (.slice x.s10.F x.s10.n x.s10.c) (.slice x.m10.F x.m10.n x.m10.c) (.slice x.g10.F x.g10.n x.g10.c)))] W (fun e w' => e = .returned (.int .i64 (s.c : Nat)) ∧ Below W.heap.size W w')) := Lib.hid (fun W hW => cap10 W s _ _ _ (⟨(hst.below hW).form1, (hst.below hW).form2, (hst.below hW).form3⟩))
  have HL5 : Hid (∀ W : World, Below w.heap.size w W → W.cell? ⟨b, 7, none⟩ = some (.int .i64 (s.c : Nat)) ∧ W.cell? ⟨b, 8, none⟩ = some (.slice x.s10.F x.s10.n x.s10.c) ∧ W.cell? ⟨b, 9, none⟩ = some (.slice x.m10.F x.m10.n x.m10.c) ∧ W.cell? ⟨b, 10, none⟩ = some (.slice x.g10.F x.g10.n x.g10.c) ∧ W.cell? ⟨g, 9, none⟩ = some (.func (.func 86) #[] #[]) ∧ W.cell? ⟨g, 0, none⟩ = some (.func (.func 77) #[] #[])) := Lib.hid (fun W hW => by
    obtain ⟨j0, j1, j2, j3, j4⟩ := HLD.out W hW
    exact ⟨j0, j1, j2, j3, j4, (head_row ((hW.block g hcl).trans hc)).cell (i := 0) (by simp)⟩)
  clear hst hc0 hp h hps hc
  go_enter Tryz.func172, Tryz.ntmps172
  go_wp2_with fail
  go_region_held3 (fun w' => w'.cell? ⟨b, 7, none⟩ = some (.int .i64 (s.c : Nat)) ∧ w'.cell? ⟨b, 8, none⟩ = some (.slice x.s10.F x.s10.n x.s10.c) ∧ w'.cell? ⟨b, 9, none⟩ = some (.slice x.m10.F x.m10.n x.m10.c) ∧ w'.cell? ⟨b, 10, none⟩ = some (.slice x.g10.F x.g10.n x.g10.c) ∧ w'.cell? ⟨g, 9, none⟩ = some (.func (.func 86) #[] #[]) ∧ w'.cell? ⟨g, 0, none⟩ = some (.func (.func 77) #[] #[]))
    (first | with_reducible exact kk5 | go_keep)
    (first
    | (go_at_call 77; refine (fld10 _ b).mono ?_; rintro e w1 ⟨rfl, rfl⟩)
    | (go_at_call 86; refine (KT.out _ (below_drewn (Below.refl _ _) _)).mono ?_; rintro e w5 ⟨rfl, hb5⟩; have hbA := (below_drewn (Below.refl w.heap.size w) _).trans hb5; have kk5 := HL5.out w5 hbA))
  all_goals
    go_wp2
    go_ret
    exact ⟨rfl, hbA⟩
end
end Go.Proofs.YtcpggonengkgiaaGreatDoor
/- The machine's calls of sthree. -/
namespace Go.Proofs.YtcpggonengkgiaaGreatDoor
open Go Go.RowKit Go.Deep
set_option maxRecDepth 8000
section
variable {w : World} {b g : Nat} {m : M13} {x : V13} {s : L10}
set_option maxHeartbeats 4000000 in
theorem own10c (PO : Pol10Ok) (hc : w.heap[g]? = some (.cells cl10C CT10 (0, 0))) (h : S13 w PT13 b m x) (hps : m.ps = .sthree s) (ok : s.Ok) {g2 : Nat} (hr : w.heap[g2]? = some (.cells #[.func (.func 163) #[] #[.pointer (some ⟨g, 0, none⟩)]] RT13_10 (0, 0))) :
    Calls Tryz.prog 165 #[.pointer (some ⟨b, 0, none⟩), .pointer (some ⟨g2, 0, none⟩), .pointer (some ⟨g, 0, none⟩)] w fun e w' => e = .returned (.tuple #[]) ∧ Ps w b m x (.sthree s) w' := by
  have hb := h.lt
  have hpol := h.st.pol
  rw [hps] at hpol
  obtain ⟨hp, hc0, hst⟩ := hpol
  have hcl := (head_row hc).lt
  have hrl := (head_row hr).lt
  have HSS : Hid (∀ W : World, Below w.heap.size w W → W.cell? ⟨g2, 0, none⟩ = some (.func (.func 163) #[] #[.pointer (some ⟨g, 0, none⟩)]) ∧ W.cell? ⟨g, 0, none⟩ = some (.func (.func 77) #[] #[]) ∧ W.cell? ⟨g, 9, none⟩ = some (.func (.func 86) #[] #[])) := Lib.hid (fun W hW => by
    exact ⟨(head_row ((hW.block g2 hrl).trans hr)).cell (i := 0) (by simp), (head_row ((hW.block g hcl).trans hc)).cell (i := 0) (by simp), (head_row ((hW.block g hcl).trans hc)).cell (i := 9) (by simp)⟩)
  have KC : Hid (∀ W F0 n0 d0 F1 n1 d1 F2 n2 d2, Calls Tryz.prog 86 #[.agg (l10C s.c (.slice F0 n0 d0) (.slice F1 n1 d1) (.slice F2 n2 d2))] W (fun e w' => e = .returned (.int .i64 (s.c : Nat)) ∧ Below W.heap.size W w')) := Lib.hid (fun W F0 n0 d0 F1 n1 d1 F2 n2 d2 => cap10 W s _ _ _ (⟨⟨F0, n0, d0, rfl⟩, ⟨F1, n1, d1, rfl⟩, ⟨F2, n2, d2, rfl⟩⟩))
  have hcap := ok.cap
  have KR : Hid (∀ W, Below w.heap.size w W → Calls Tryz.prog 163 #[.pointer (some ⟨b, 0, none⟩), .int .i64 (s.c : Nat), .pointer (some ⟨g, 0, none⟩)] W (fun e w' => ∃ v, e = .returned v ∧ Ps w b m x (.sthree s) w')) := Lib.hid (fun W hW => by
    refine (resize10c PO ((hW.block g hcl).trans hc) (h.below hW) hps ok (s.c : Nat) (by omega) (by omega)).mono ?_
    rintro e w' ⟨v, rfl, ⟨h1, x', h2, h3⟩, _⟩
    rw [(L10.own ok).1] at h3
    exact ⟨v, rfl, ⟨(Only.of_below hW).trans h1 (by simp), x', h2, h3⟩⟩)
  obtain ⟨k0, k1, k2⟩ := HSS.out w (Below.refl _ _)
  obtain ⟨-, -, -, -, -, -, -, p7, p8, p9, p10, -⟩ := box_cells h.box
  rw [hc0] at p7
  clear hst hc0 hp h hps hc hr hcap
  go_enter Tryz.func165, Tryz.ntmps165
  go_wp2_with fail
  go_region_with (first | (go_at_call 77; refine (fld10 _ b).mono ?_; rintro e w1 ⟨rfl, rfl⟩) | (go_at_call 86; refine (KC.out _ _ _ _ _ _ _ _ _ _).mono ?_; rintro e w5 ⟨rfl, hb5⟩; have hbA := (below_drewn (Below.refl w.heap.size w) _).trans hb5; obtain ⟨k0, k1, k2⟩ := HSS.out w5 hbA) | (go_at_call 163; refine (KR.out _ hbA).mono ?_; rintro e w6 ⟨v6, rfl, hp6⟩))
  all_goals
    go_wp2
    go_end0
    exact ⟨rfl, hp6⟩
end
end Go.Proofs.YtcpggonengkgiaaGreatDoor
/- The machine's calls of sthree. -/
namespace Go.Proofs.YtcpggonengkgiaaGreatDoor
open Go Go.RowKit Go.Deep
set_option maxRecDepth 8000
section
variable {w : World} {b g : Nat} {m : M13} {x : V13} {s : L10}
set_option maxHeartbeats 4000000 in
theorem start10c (PO : Pol10Ok) (hc : w.heap[g]? = some (.cells cl10C CT10 (0, 0))) (h : w.heap[b]? = some (.cells x.C PT13 (0, 0))) (hp : x.p = 3) (n : Int) (hn1 : -9223372036854775808 ≤ n) (hn2 : n ≤ 9223372036854775807) :
    Calls Tryz.prog 164 #[.pointer (some ⟨b, 0, none⟩), .int .i64 n, .pointer (some ⟨g, 0, none⟩)] w fun e w' => e = .returned (.tuple #[]) ∧ Only [b] w w' ∧ ∃ x' : V13, x'.pr = x.pr ∧ x'.p = x.p ∧ x'.hi = x.hi ∧ x'.mi = x.mi ∧ x'.ev = x.ev ∧ w'.heap[b]? = some (.cells x'.C PT13 (0, 0)) ∧ PolIn w' x' (.sthree (L10.new n)) := by
  have hb := (head_row h).lt
  have hcl := (head_row hc).lt
  have KT : Hid (∀ W, Below w.heap.size w W → Calls Tryz.prog 78 #[.int .i64 n] W (P10 W (L10.new n))) := Lib.hid (fun W _ => PO.new W n hn1 hn2)
  have HLD : Hid (∀ W : World, Below w.heap.size w W → W.cell? ⟨g, 0, none⟩ = some (.func (.func 77) #[] #[]) ∧ W.cell? ⟨g, 1, none⟩ = some (.func (.func 78) #[] #[])) := Lib.hid (fun W hW => ⟨(head_row ((hW.block g hcl).trans hc)).cell (i := 0) (by simp), (head_row ((hW.block g hcl).trans hc)).cell (i := 1) (by simp)⟩)
  have HFR : Hid (∀ W : World, Below w.heap.size w W → (W.frozen? ⟨b, 7, none⟩ = false ∧ W.frozen? ⟨b, 8, none⟩ = false ∧ W.frozen? ⟨b, 9, none⟩ = false ∧ W.frozen? ⟨b, 10, none⟩ = false) ∧ ∃ v7 v8 v9 v10, W.cell? ⟨b, 7, none⟩ = some v7 ∧ W.cell? ⟨b, 8, none⟩ = some v8 ∧ W.cell? ⟨b, 9, none⟩ = some v9 ∧ W.cell? ⟨b, 10, none⟩ = some v10) := Lib.hid (fun W hW => by
    obtain ⟨-, -, -, -, -, -, -, p7, p8, p9, p10, -⟩ := box_cells ((hW.block b hb).trans h)
    exact ⟨⟨box_free ((hW.block b hb).trans h) 7, box_free ((hW.block b hb).trans h) 8, box_free ((hW.block b hb).trans h) 9, box_free ((hW.block b hb).trans h) 10⟩, _, _, _, _, p7, p8, p9, p10⟩)
  obtain ⟨k0, k1⟩ := HLD.out w (Below.refl _ _)
  have HEND : Hid (∀ W F0 n0 d0 F1 n1 d1 F2 n2 d2, Below w.heap.size w W → St10 W (L10.new n) (.slice F0 n0 d0) (.slice F1 n1 d1) (.slice F2 n2 d2) → Only [b] w ((((W.setCell ⟨b, 7, none⟩ (.int .i64 ((L10.new n).c : Nat))).setCell ⟨b, 8, none⟩ (.slice F0 n0 d0)).setCell ⟨b, 9, none⟩ (.slice F1 n1 d1)).setCell ⟨b, 10, none⟩ (.slice F2 n2 d2)) ∧ ∃ x' : V13, x'.pr = x.pr ∧ x'.p = x.p ∧ x'.hi = x.hi ∧ x'.mi = x.mi ∧ x'.ev = x.ev ∧ (((((W.setCell ⟨b, 7, none⟩ (.int .i64 ((L10.new n).c : Nat))).setCell ⟨b, 8, none⟩ (.slice F0 n0 d0)).setCell ⟨b, 9, none⟩ (.slice F1 n1 d1)).setCell ⟨b, 10, none⟩ (.slice F2 n2 d2))).heap[b]? = some (.cells x'.C PT13 (0, 0)) ∧ PolIn ((((W.setCell ⟨b, 7, none⟩ (.int .i64 ((L10.new n).c : Nat))).setCell ⟨b, 8, none⟩ (.slice F0 n0 d0)).setCell ⟨b, 9, none⟩ (.slice F1 n1 d1)).setCell ⟨b, 10, none⟩ (.slice F2 n2 d2)) x' (.sthree (L10.new n))) := Lib.hid (fun W F0 n0 d0 F1 n1 d1 F2 n2 d2 hW hs => by
    have hbx : ∀ j ∈ [b], Bx W j := fun j hj => by
      have e : j = b := by simpa using hj
      rw [e]
      exact ⟨_, _, (hW.block b hb).trans h, x.nou, by decide⟩
    obtain ⟨h1, h2⟩ := box_set10 ((hW.block b hb).trans h) ((L10.new n).c : Nat) F0 n0 d0 F1 n1 d1 F2 n2 d2
    exact ⟨(Only.of_below hW).trans h2 (by simp), { x with c10 := ((L10.new n).c : Nat), s10 := ⟨F0, n0, d0⟩, m10 := ⟨F1, n1, d1⟩, g10 := ⟨F2, n2, d2⟩ }, rfl, rfl, rfl, rfl, rfl, h1, ⟨hp, rfl, ⟨hs.g1.only h2 hbx, hs.g2.only h2 hbx, hs.g3.only h2 hbx⟩⟩⟩)
  clear h hc hp
  go_enter Tryz.func164, Tryz.ntmps164
  go_wp2_with fail
  go_region_with (first | (go_at_call 77; refine (fld10 _ b).mono ?_; rintro e w1 ⟨rfl, rfl⟩) | (go_at_call 78; refine (KT.out _ (below_drewn (Below.refl _ _) _)).mono ?_; rintro e w5 ⟨u50, u51, u52, rfl, hb5, hk5⟩; obtain ⟨F50, n50, d50, rfl⟩ := hk5.form1; obtain ⟨F51, n51, d51, rfl⟩ := hk5.form2; obtain ⟨F52, n52, d52, rfl⟩ := hk5.form3; have hbA := (below_drewn (Below.refl w.heap.size w) _).trans hb5; obtain ⟨k0, k1⟩ := HLD.out w5 hbA; obtain ⟨⟨z0, z1, z2, z3⟩, y7, y8, y9, y10, y'7, y'8, y'9, y'10⟩ := HFR.out w5 hbA))
  all_goals
    go_wp2
    go_end0
    exact ⟨rfl, HEND.out _ _ _ _ _ _ _ _ _ _ hbA hk5⟩
end
end Go.Proofs.YtcpggonengkgiaaGreatDoor
/- The machine's calls of sthree, packed. -/
namespace Go.Proofs.YtcpggonengkgiaaGreatDoor
open Go Go.RowKit Go.Deep
set_option maxRecDepth 8000
abbrev pf10 (g g2 : Nat) : PolF := ⟨164, 165, 166, 167, 168, 163, 169, 170, 171, 172, #[.pointer (some ⟨g, 0, none⟩)], #[.pointer (some ⟨g2, 0, none⟩), .pointer (some ⟨g, 0, none⟩)], #[.pointer (some ⟨g, 0, none⟩)], #[.pointer (some ⟨g, 0, none⟩)], #[.pointer (some ⟨g, 0, none⟩)], #[.pointer (some ⟨g, 0, none⟩)], #[.pointer (some ⟨g, 0, none⟩)], #[.pointer (some ⟨g, 0, none⟩)], #[.pointer (some ⟨g, 0, none⟩)], #[.pointer (some ⟨g, 0, none⟩)]⟩
def Iv10 (g g2 : Nat) (W : World) : Prop := W.heap[g]? = some (.cells cl10C CT10 (0, 0)) ∧ W.heap[g2]? = some (.cells #[.func (.func 163) #[] #[.pointer (some ⟨g, 0, none⟩)]] RT13_10 (0, 0))
theorem is10 {m : M13} (h : m.ps.tag = 3) : ∃ s, m.ps = .sthree s := by
  cases hp : m.ps with
  | lru s => rw [hp] at h; cases h
  | twoq s => rw [hp] at h; cases h
  | sthree s => exact ⟨s, rfl⟩
  | arc s => rw [hp] at h; cases h
  | lirs s => rw [hp] at h; cases h
theorem polv10 (PO : Pol10Ok) (g g2 : Nat) : PolV (pf10 g g2) 3 [g, g2] (Iv10 g g2) where
  e0 := fun args W => by kernel_rfl
  e1 := fun args W => by kernel_rfl
  e2 := fun args W => by kernel_rfl
  e3 := fun args W => by kernel_rfl
  e4 := fun args W => by kernel_rfl
  e5 := fun args W => by kernel_rfl
  e6 := fun args W => by kernel_rfl
  e7 := fun args W => by kernel_rfl
  e8 := fun args W => by kernel_rfl
  e9 := fun args W => by kernel_rfl
  typ := fun W h k hk => by
    simp only [List.mem_cons, List.not_mem_nil, or_false] at hk
    rcases hk with rfl | rfl
    · exact ⟨_, _, h.1, by decide, by decide⟩
    · exact ⟨_, _, h.2, by decide, by decide⟩
  stay := fun W W' h hk => ⟨(hk g (by simp)).trans h.1, (hk g2 (by simp)).trans h.2⟩
  own := fun {W b m x} hi hs ht ok => by
    obtain ⟨s, hps⟩ := is10 ht
    have ok2 : s.Ok := by
      have h := ok
      rw [hps] at h
      exact h
    rw [hps]
    exact own10c PO hi.1 hs hps ok2 hi.2
  touch := fun {W b m x} hi hs ht ok k hk => by
    obtain ⟨s, hps⟩ := is10 ht
    have ok2 : s.Ok := by
      have h := ok
      rw [hps] at h
      exact h
    rw [hps]
    exact touch10c PO hi.1 hs hps ok2 k hk
  adm := fun {W b m x} hi hs ht ok k hk => by
    obtain ⟨s, hps⟩ := is10 ht
    have ok2 : s.Ok := by
      have h := ok
      rw [hps] at h
      exact h
    rw [hps]
    exact adm10c PO hi.1 hs hps ok2 k hk
  drop := fun {W b m x} hi hs ht ok k hk => by
    obtain ⟨s, hps⟩ := is10 ht
    have ok2 : s.Ok := by
      have h := ok
      rw [hps] at h
      exact h
    rw [hps]
    exact drop10c PO hi.1 hs hps ok2 k hk
  rsz := fun {W b m x} hi hs ht ok n h1 h2 => by
    obtain ⟨s, hps⟩ := is10 ht
    have ok2 : s.Ok := by
      have h := ok
      rw [hps] at h
      exact h
    rw [hps]
    exact resize10c PO hi.1 hs hps ok2 n h1 h2
  has := fun {W b m x} hi hs ht ok k hk => by
    obtain ⟨s, hps⟩ := is10 ht
    have ok2 : s.Ok := by
      have h := ok
      rw [hps] at h
      exact h
    rw [hps]
    exact has10c PO hi.1 hs hps ok2 k hk
  keys := fun {W b m x} hi hs ht ok => by
    obtain ⟨s, hps⟩ := is10 ht
    have ok2 : s.Ok := by
      have h := ok
      rw [hps] at h
      exact h
    rw [hps]
    exact keys10c PO hi.1 hs hps ok2
  gho := fun {W b m x} hi hs ht ok => by
    obtain ⟨s, hps⟩ := is10 ht
    have ok2 : s.Ok := by
      have h := ok
      rw [hps] at h
      exact h
    rw [hps]
    exact ghosts10c PO hi.1 hs hps ok2
  cap := fun {W b m x} hi hs ht ok => by
    obtain ⟨s, hps⟩ := is10 ht
    rw [hps]
    exact caps10c hi.1 hs hps
theorem pols10 (PO : Pol10Ok) (g g2 : Nat) : PolS (pf10 g g2) 3 (Iv10 g g2) := ⟨fun {_ _ _} hi hb hp n h1 h2 => start10c PO hi.1 hb hp n h1 h2⟩
set_option maxHeartbeats 2000000 in
theorem over10_walk (w : World) : Calls Tryz.prog 76 #[.agg cl10C] w fun e w' => e = .returned (.agg (pf10 w.heap.size (w.heap.size + 1 + 1)).C) ∧ Below w.heap.size w w' ∧ Iv10 w.heap.size (w.heap.size + 1 + 1) w' := by
  have hmf : ∀ (fn : Fn) (first cap : Array Value) (w : World), (Instr.makeFunc fn first cap).run Tryz.prog w = .ok (.func fn first cap) w := fun _ _ _ _ => rfl
  go_enter Tryz.func76, Tryz.ntmps76
  go_wp2_with fail
  refine bodyPost_ret (v := .agg (pf10 w.heap.size (w.heap.size + 1 + 1)).C) (by simp [results, Tryz.results76, go_sem]) rfl ⟨rfl, (low_two w _ _).alloc (by simp; omega) _, ?_, ?_⟩
  · rw [Below.heap_alloc _ _ _ (by simp; omega), Below.heap_alloc _ _ _ (by simp)]
    exact heap_alloc_new w _
  · have := heap_alloc_new ((w.alloc (.cells cl10C CT10)).alloc (.cells (pf10 w.heap.size (w.heap.size + 1 + 1)).C PolT)) (.cells #[.func (.func 163) #[] #[.pointer (some ⟨w.heap.size, 0, none⟩)]] RT13_10)
    simpa using this
set_option maxHeartbeats 2000000 in
theorem policyOf10_walk (w : World) : Calls Tryz.prog 28 #[.int .i64 3] w fun e w' => e = .returned (.tuple #[.agg (pf10 (w.heap.size + 1) (w.heap.size + 1 + 1 + 1)).C, .bool true]) ∧ Below w.heap.size w w' ∧ Iv10 (w.heap.size + 1) (w.heap.size + 1 + 1 + 1) w' := by
  have HO := Lib.hid (over10_walk (w.alloc (.cells #[.nilFunc, .nilFunc, .nilFunc, .nilFunc, .nilFunc, .nilFunc, .nilFunc, .nilFunc, .nilFunc, .nilFunc] PolT)))
  have hr := heap_alloc_new w (.cells #[.nilFunc, .nilFunc, .nilFunc, .nilFunc, .nilFunc, .nilFunc, .nilFunc, .nilFunc, .nilFunc, .nilFunc] PolT)
  have HR := Lib.hid hr
  have HL := Lib.hid (low_one w (.cells #[.nilFunc, .nilFunc, .nilFunc, .nilFunc, .nilFunc, .nilFunc, .nilFunc, .nilFunc, .nilFunc, .nilFunc] PolT))
  clear hr
  go_enter Tryz.func28, Tryz.ntmps28
  go_wp2_with fail
  refine HO.out.mono ?_
  rintro e w2 ⟨rfl, hb2, hi2⟩
  simp only [World.size_alloc] at hi2
  have hr2 := (hb2.block _ (head_row HR.out).lt).trans HR.out
  have HEND : Hid (∀ W, Only [w.heap.size] w2 W → Below w.heap.size w W ∧ Iv10 (w.heap.size + 1) (w.heap.size + 1 + 1 + 1) W) := Lib.hid (fun W ho => by
    have h3 := hb2.size
    simp only [World.size_alloc] at h3
    refine ⟨(HL.out.trans (hb2.mono HL.out.size)).trans (ho.below (by simp) (by omega)), (ho.block _ (head_row hi2.1).lt (by simp)).trans hi2.1, (ho.block _ (head_row hi2.2).lt (by simp; omega)).trans hi2.2⟩)
  obtain ⟨⟨z0, z1, z2, z3, z4, z5, z6, z7, z8, z9⟩, zf⟩ := c10_at hr2
  have zf0 := zf 0
  have zf1 := zf 1
  have zf2 := zf 2
  have zf3 := zf 3
  have zf4 := zf 4
  have zf5 := zf 5
  have zf6 := zf 6
  have zf7 := zf 7
  have zf8 := zf 8
  have zf9 := zf 9
  clear hb2 hi2 hr2 HO HR HL zf
  simp only [World.size_alloc]
  go_wp2_with fail
  refine bodyPost_ret (v := .tuple #[.agg (pf10 (w.heap.size + 1) (w.heap.size + 1 + 1 + 1)).C, .bool true]) (by simp [results, Tryz.results28, go_sem, z0, z1, z2, z3, z4, z5, z6, z7, z8, z9]) rfl ⟨rfl, HEND.out _ ((((((((((((Only.refl _ _).setCell (by simp) _).setCell (by simp) _).setCell (by simp) _).setCell (by simp) _).setCell (by simp) _).setCell (by simp) _).setCell (by simp) _).setCell (by simp) _).setCell (by simp) _).setCell (by simp) _))⟩
end Go.Proofs.YtcpggonengkgiaaGreatDoor
