/- IlistRound, walked. -/
import Derived.Test.YtlmcodmglcmmoaaLKeep
namespace Go.Proofs.Ytlmcodmglcmmoaa
open Go Go.RowKit Go.Deep

theorem round_long (w : World) (r : Int) (A : Option Addr) (n c : Nat) (hn : 40 < n) (hm : n ≤ maxLen) :
    Calls Try.prog 5 #[.int .u8 r, .slice A n c] w fun e w' => e = .returned (.bool true) ∧ Below w.heap.size w w' := by
  unfold maxLen at hm
  go_enter Try.func5, Try.ntmps5
  go_wp2_with fail
  refine (awake_walk _).mono ?_
  rintro e w1 ⟨rfl, h⟩
  have B1 := Lib.hid h; clear h
  go_wp2
  go_ret
  exact ⟨rfl, B1.out⟩

/- A slice that has these slots, and the memory that it reads lies before a number. -/
theorem own_slots {w : World} {B : Nat} {v : Value} {xs : List Nat} (h : w.ownsRow B 21 1 v xs.length (slots xs)) : ∃ F c, v = .slice F xs.length c ∧ ∀ w', Below w.heap.size w w' → ∀ k (hk : k < xs.length), ∃ g, F = some ⟨g, 0, none⟩ ∧ w'.cell? ⟨g, k, none⟩ = some (.int .i32 (xs[k] : Nat)) := by
  rcases h.2 with ⟨rfl, h0⟩ | ⟨g, cap, cur, rfl, hg, hc, hle, _, hcs, ht⟩
  · exact ⟨none, 0, by rw [h0], fun _ _ k hk => by omega⟩
  · refine ⟨_, _, rfl, fun w' hb k hk => ⟨g, rfl, ?_⟩⟩
    have hlt : g < w.heap.size := (Array.getElem?_eq_some_iff.1 hc).1
    rw [hb.cell (p := ⟨g, k, none⟩) hlt]
    have := own_cells h k (by simpa [slots] using hk)
    rw [this]
    simp [slots]

theorem back_all (n : Nat) (l : Nat → List Nat) (tag : Int) : backL n l tag = (allL n l tag).getLastD 0 := by unfold backL allL; split <;> rfl
section
variable {w0 w : World} {p b n : Nat} {l : Nat → List Nat} {A : St} {K : List Nat}
theorem hl_beforeAll (h : HL w0 w p b n l A K) (tag : Int) (xs : List Nat) (hx : allL n l tag = xs) (k : Nat) (hk : k < xs.length) :
    Calls Try.prog 24 #[.pointer (some ⟨p, 0, none⟩), .int .i32 (xs[k] : Nat)] w fun e w' => e = .returned (.int .i32 ((xs.take k).getLastD 0 : Nat)) ∧ Below w.heap.size w w' := by
  unfold allL at hx
  split at hx
  · rename_i ht
    obtain ⟨t, rfl, htn⟩ := hasT_nat ht
    have e : ((t : Int)).toNat = t := by omega
    rw [e] at hx
    subst hx
    exact hl_before h htn hk
  · subst hx; simp at hk
theorem hl_tagAll (h : HL w0 w p b n l A K) (tag : Int) (xs : List Nat) (hx : allL n l tag = xs) (k : Nat) (hk : k < xs.length) :
    Calls Try.prog 21 #[.pointer (some ⟨p, 0, none⟩), .int .i32 (xs[k] : Nat)] w fun e w' => e = .returned (.int .i64 tag) ∧ Below w.heap.size w w' := by
  unfold allL at hx
  split at hx
  · rename_i ht
    obtain ⟨t, rfl, htn⟩ := hasT_nat ht
    have e : ((t : Int)).toNat = t := by omega
    rw [e] at hx
    subst hx
    have hm : (l t)[k] ∈ l t := List.getElem_mem hk
    have h1 := hl_tag h ((l t)[k] : Nat) (by
      obtain ⟨x, g1, g2, rfl, g4⟩ := h
      have := (g1.taken (g2.taken t htn _ hm)).2.1
      omega)
    rw [h.tagI_at htn hm] at h1
    exact h1
  · subst hx; simp at hk
end
theorem last_take (xs : List Nat) (k : Nat) (hk : k < xs.length) : (xs.take (k + 1)).getLastD 0 = xs[k] := by
  rw [List.take_succ_eq_append_getElem hk, List.getLastD_eq_getLast?, List.getLast?_append]
  simp

set_option maxHeartbeats 1000000 in
theorem round_short (w : World) (r : Nat) (hr : r < 256) (A : Option Addr) (n c : Nat) (l : Nat → Actl) (hn : n ≤ 40) (ha : Actls w A n l) :
    Calls Try.prog 5 #[.int .u8 r, .slice A n c] w fun e w' => e = .returned (.bool true) ∧ Below w.heap.size w w' := by
  have HA := Lib.hid ha
  clear ha
  go_enter Try.func5, Try.ntmps5
  go_wp2_with fail
  refine (awake_walk _).mono ?_
  rintro e w1 ⟨rfl, h⟩
  have B1 := Lib.hid h; clear h
  go_wp2_with fail
  refine (begin_walk B1.out r hr).mono ?_
  rintro e w2 ⟨b, p, v, K, rfl, h, hv⟩
  obtain ⟨Fo, fc, nb, nc, o, oc, rfl, _⟩ := hv
  have H2 := Lib.hid (h.still ((Below.refl w2.heap.size w2).alloc (Nat.le_refl _) (.cells #[.int .i64 begF.n, .int .i64 begF.used, .slice Fo begF.freed.length fc, .slice (some ⟨nb, 0, none⟩) (begF.used + 1) nc, .slice (some ⟨o, 0, none⟩) (1 + r % 3) oc] 32))).1
  clear h
  obtain ⟨q, hq, hq3⟩ : ∃ q : Nat, 1 + r % 3 = q ∧ q ≤ 3 := ⟨_, rfl, by omega⟩
  rw [hq] at H2 ⊢
  clear hq
  go_wp2_with fail
  go_loopg [9] n (fun g s9 wr => ∃ (k : Nat) (ls : Nat → List Nat), k + g = n ∧ s9 = .int .i64 k ∧ Hid (HL w wr p b q ls begF K))
  case atStart => exact ⟨0, _, by omega, rfl, Lib.hid H2.out⟩
  case round =>
    obtain ⟨k, ls, hk, rfl, HI⟩ := hrel
    by_cases hlt : k < n
    · obtain ⟨wf, g, off, hA, hg, c0, c1, c2⟩ := (HA.out.below HI.out.below) k hlt
      have HD := Lib.hid (do_walk HI.out (l k) wf)
      clear HI
      go_wp2_with fail
      refine HD.out.mono ?_
      rintro e w3 ⟨rfl, h, _⟩
      have H3 := Lib.hid h
      clear h c0 c1 c2 hA hg wf HD
      go_wp2
      go_roundg (gk - 1)
      case measure => omega
      case rel => exact ⟨k + 1, _, by omega, by go_num, H3⟩
    · have hlI : ¬ (k : Int) < (n : Int) := by omega
      go_wp2_with fail
      go_loopg [10] 3 (fun g s10 wr2 => ∃ t : Nat, t + g = 3 ∧ s10 = .int .i64 t ∧ Hid (HL w wr2 p b q ls begF K))
      case atStart => exact ⟨0, by omega, rfl, HI⟩
      case round =>
        obtain ⟨t, ht, rfl, HI2⟩ := hrel
        by_cases hlt3 : t < 3
        · have hltI : (t : Int) < 3 := by omega
          obtain ⟨xs, hxs⟩ : ∃ xs, allL q ls (t : Int) = xs := ⟨_, rfl⟩
          have hal := all_walk HI2.out (t : Int)
          have hbk := fun w' hb => hl_back (HI2.out.still (w' := w') hb).1 (t : Int)
          rw [back_all, hxs] at hbk
          have hlen := HI2.out.allLen (t : Int)
          rw [hxs] at hal hlen
          have HAL := Lib.hid hal
          have HBK := Lib.hid hbk
          have HX := Lib.hid hxs
          clear hal hbk hxs
          go_wp2_with fail
          refine HAL.out.mono ?_
          rintro e w3 ⟨v, rfl, hv, hb3⟩
          obtain ⟨F, fcap, rfl, hF⟩ := own_slots hv
          have HFS := Lib.hid hF
          have HB3 := Lib.hid hb3
          clear hv hF hb3
          go_wp2_with fail
          refine (HBK.out _ HB3.out).mono ?_
          rintro e w' ⟨rfl, rfl⟩
          rcases Nat.eq_zero_or_pos xs.length with hxz | hxp
          · go_wp2_with fail
            go_loopg [12, 13] xs.length (fun g s12 s13 wr3 => ∃ k : Nat, k = g ∧ k ≤ xs.length ∧ s12 = .int .i32 ((xs.take k).getLastD 0 : Nat) ∧ s13 = .int .i64 ((k : Int) - 1) ∧ Hid (HL w wr3 p b q ls begF K ∧ Below w3.heap.size w3 wr3))
            case atStart => exact ⟨xs.length, rfl, Nat.le_refl _, by simp, by simp [hxz], Lib.hid ⟨(HI2.out.still HB3.out).1, Below.refl _ _⟩⟩
            case round =>
              obtain ⟨k, hkg, hkl, rfl, rfl, HI3⟩ := hrel
              cases k with
              | zero =>
                rw [show (xs.take 0).getLastD 0 = 0 from by simp, show ((0 : Nat) : Int) - 1 = (-1 : Int) from rfl]
                go_wp2
                go_roundg (2 - t)
                case measure => omega
                case rel => exact ⟨t + 1, by omega, by go_num, Lib.hid HI3.out.1⟩
              | succ j => omega
          · obtain ⟨g, hFg, _⟩ := HFS.out w3 (Below.refl _ _) 0 hxp
            subst hFg
            go_wp2_with fail
            go_loopg [12, 13] xs.length (fun g s12 s13 wr3 => ∃ k : Nat, k = g ∧ k ≤ xs.length ∧ s12 = .int .i32 ((xs.take k).getLastD 0 : Nat) ∧ s13 = .int .i64 ((k : Int) - 1) ∧ Hid (HL w wr3 p b q ls begF K ∧ Below w3.heap.size w3 wr3))
            case atStart => exact ⟨xs.length, rfl, Nat.le_refl _, by simp, rfl, Lib.hid ⟨(HI2.out.still HB3.out).1, Below.refl _ _⟩⟩
            case round =>
              obtain ⟨k, hkg, hkl, rfl, rfl, HI3⟩ := hrel
              cases k with
              | zero =>
                rw [show (xs.take 0).getLastD 0 = 0 from by simp, show ((0 : Nat) : Int) - 1 = (-1 : Int) from rfl]
                go_wp2
                go_roundg (2 - t)
                case measure => omega
                case rel => exact ⟨t + 1, by omega, by go_num, Lib.hid HI3.out.1⟩
              | succ j =>
                have hj : j < xs.length := by omega
                have hjI : (j : Int) < (xs.length : Int) := by omega
                have e1 : ((j + 1 : Nat) : Int) - 1 = (j : Int) := by omega
                have hbf := fun w' hb => hl_beforeAll (HI3.out.1.still (w' := w') hb).1 (t : Int) xs HX.out j hj
                have htg := hl_tagAll HI3.out.1 (t : Int) xs HX.out j hj
                obtain ⟨g', hF', hc⟩ := HFS.out wr HI3.out.2 j hj
                injection hF' with hF'
                injection hF' with hF'
                subst hF'
                rw [last_take xs j hj, e1]
                obtain ⟨x, hx⟩ : ∃ x, xs[j] = x := ⟨_, rfl⟩
                rw [hx] at hbf htg hc ⊢
                have HBF := Lib.hid hbf
                have HTG := Lib.hid htg
                clear hbf htg hx e1
                go_wp2_with fail
                refine HTG.out.mono ?_
                rintro e w4 ⟨rfl, hb4⟩
                have HB4 := Lib.hid hb4
                clear hb4
                go_wp2_with fail
                refine (HBF.out _ HB4.out).mono ?_
                rintro e w5 ⟨rfl, hb5⟩
                have hb45 := HB4.out.trans (hb5.mono HB4.out.size)
                have H5 : Hid (HL w w5 p b q ls begF K ∧ Below w3.heap.size w3 w5) := Lib.hid ⟨(HI3.out.1.still hb45).1, HI3.out.2.trans (hb45.mono HI3.out.2.size)⟩
                clear hb5 hb45 hc
                go_wp2
                go_roundg j
                case measure => omega
                case rel => exact ⟨j, rfl, by omega, by simp, by go_num, H5⟩
        · have hltI : ¬ (t : Int) < 3 := by omega
          have HE := Lib.hid HI2.out.below
          go_wp2
          go_ret
          exact ⟨rfl, HE.out⟩
theorem ilistRound_walk (w : World) (r : Int) (hr : (Lit.int .u8 r).wf = true) (A : Option Addr) (n c : Nat) (l : Nat → Actl) (hm : n ≤ maxLen) (ha : Actls w A n l) :
    Calls Try.prog 5 #[.int .u8 r, .slice A n c] w fun e w' => e = .returned (.bool true) ∧ Below w.heap.size w w' := by
  by_cases hn : n ≤ 40
  · simp only [Lit.wf, Bool.and_eq_true, decide_eq_true_eq] at hr
    have m1 : IntKind.u8.min = 0 := rfl
    have m2 : IntKind.u8.max = 255 := rfl
    obtain ⟨k, rfl⟩ : ∃ k : Nat, r = k := ⟨r.toNat, by omega⟩
    exact round_short w k (by omega) A n c l hn ha
  · exact round_long w r A n c (by omega) hm
end Go.Proofs.Ytlmcodmglcmmoaa
