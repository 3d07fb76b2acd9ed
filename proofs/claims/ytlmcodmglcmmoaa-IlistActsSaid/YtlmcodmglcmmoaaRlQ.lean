/- The document's own lists: Near, Same. -/
import Derived.Test.YtlmcodmglcmmoaaRlP
import Derived.BigQuiet
import Derived.Deep.QuietTactic
namespace Go.Proofs.Ytlmcodmglcmmoaa
open Go Go.RowKit Go.Deep

/- A row of slots that is read: where its cells are. -/
def Row32 (w : World) (F : Option Addr) (xs : List Nat) : Prop := ∀ k (hk : k < xs.length), ∃ g, F = some ⟨g, 0, none⟩ ∧ w.cell? ⟨g, k, none⟩ = some (.int .i32 (xs[k] : Nat))
theorem FreedAt.row32 {w : World} {F : Option Addr} {xs : List Nat} {c : Nat} {K : List Nat} (h : FreedAt w F xs c K) : Row32 w F xs := fun k hk => by
  rcases h.mem with ⟨_, e, _⟩ | ⟨fb, e, _, hc⟩
  · rw [e] at hk; simp at hk
  · exact ⟨fb, e, hc k hk⟩

theorem rlsame_walk {w : World} {F G : Option Addr} {xs : List Nat} {c d : Nat} (hF : Row32 w F xs) (hG : Row32 w G xs) (hl : xs.length ≤ 1000000) :
    Calls Try.prog 39 #[.slice F xs.length c, .slice G xs.length d] w fun e w' => e = .returned (.bool true) ∧ Below w.heap.size w w' := by
  rcases Nat.eq_zero_or_pos xs.length with h0 | hp
  · have HZ := Lib.hid h0
    clear hF hG
    rw [h0]
    clear h0 hl
    go_enter Try.func39, Try.ntmps39
    go_wp2
    go_loopg [5] 0 (fun g s5 wr => s5 = .int .i64 0 ∧ wr = w)
    case atStart => exact ⟨rfl, rfl⟩
    case round =>
      obtain ⟨rfl, rfl⟩ := hrel
      go_wp2
      go_ret
      exact ⟨rfl, Below.refl _ _⟩
  · obtain ⟨f, eF, _⟩ := hF 0 hp
    obtain ⟨g, eG, _⟩ := hG 0 hp
    subst eF eG
    have HF : Hid (∀ k (hk : k < xs.length), w.cell? ⟨f, k, none⟩ = some (.int .i32 (xs[k] : Nat))) := Lib.hid (fun k hk => by
      obtain ⟨f', e, h⟩ := hF k hk
      injection e with e
      injection e with e
      subst e
      exact h)
    have HG : Hid (∀ k (hk : k < xs.length), w.cell? ⟨g, k, none⟩ = some (.int .i32 (xs[k] : Nat))) := Lib.hid (fun k hk => by
      obtain ⟨f', e, h⟩ := hG k hk
      injection e with e
      injection e with e
      subst e
      exact h)
    clear hF hG
    go_enter Try.func39, Try.ntmps39
    go_wp2
    go_loopg [5] xs.length (fun gg s5 wr => ∃ k : Nat, k + gg = xs.length ∧ s5 = .int .i64 k ∧ Hid (∃ d, wr = w.drewN d))
    case atStart => exact ⟨0, by omega, rfl, Lib.hid ⟨0, rfl⟩⟩
    case round =>
      obtain ⟨k, hk, rfl, HD⟩ := hrel
      obtain ⟨d0, rfl⟩ := HD.out
      clear HD
      by_cases hlt : k < xs.length
      · have hI : (k : Int) < (xs.length : Int) := by omega
        have c1 := HF.out k hlt
        have c2 := HG.out k hlt
        go_wp2_with fail
        go_quiet (fail)
        go_wp2
        go_roundg (gk - 1)
        case measure => omega
        case rel => exact ⟨k + 1, by omega, by go_num, Lib.hid ⟨d0 + nq, by simp⟩⟩
      · have hI : ¬ (k : Int) < (xs.length : Int) := by omega
        go_wp2
        go_ret
        exact ⟨rfl, ⟨rfl, rfl, rfl, Nat.le_refl _, fun _ _ => rfl⟩⟩

section
variable {w : World} {v : Value} {n : Nat} {l : Nat → List Nat} {st : St} {K : List Nat}
theorem rlnear_out (h : RefL w v n l st K) (g : Gd n l) (i : Int) (hi : tagI n l i = -1) :
    Calls Try.prog 40 #[v, .int .i32 i] w fun e w' => e = .returned (.tuple #[.int .i32 0, .int .i32 0]) ∧ Below w.heap.size w w' := by
  have hl := fun w' hb => rltag_walk (h.below (w' := w') hb) g i
  rw [hi] at hl
  obtain ⟨Fo, fc, nb, nc, o, oc, rfl, _⟩ := h
  have HL := Lib.hid hl
  clear hl hi
  go_enter Try.func40, Try.ntmps40
  go_wp2_with fail
  refine (HL.out _ ((Below.refl _ _).alloc (Nat.le_refl _) _)).mono ?_
  rintro e w1 ⟨rfl, hb⟩
  have HB := Lib.hid (((Below.refl w.heap.size w).alloc (Nat.le_refl _) (.cells #[.int .i64 st.n, .int .i64 st.used, .slice Fo st.freed.length fc, .slice (some ⟨nb, 0, none⟩) (st.used + 1) nc, .slice (some ⟨o, 0, none⟩) n oc] 32)).trans (hb.mono (by simp)))
  clear hb
  go_wp2
  go_ret2
  exact ⟨rfl, HB.out⟩

set_option maxHeartbeats 400000 in
theorem rlnear_in (h : RefL w v n l st K) (g : Gd n l) (t k : Nat) (ht : t < n) (hk : k < (l t).length) :
    Calls Try.prog 40 #[v, .int .i32 ((l t)[k] : Nat)] w fun e w' => e = .returned (.tuple #[.int .i32 (((l t).take k).getLastD 0 : Nat), .int .i32 (((l t).drop (k + 1)).headD 0 : Nat)]) ∧ Below w.heap.size w w' := by
  have hl := fun w' hb => rltag_walk (h.below (w' := w') hb) g ((l t)[k] : Nat)
  rw [g.tag_in ht (List.getElem_mem hk)] at hl
  have HRL := Lib.hid h
  obtain ⟨Fo, fc, nb, nc, o, oc, rfl, hoc, href, hrows⟩ := h
  have HL := Lib.hid hl
  have ho : o < w.heap.size := href.1 o hrows.kin
  have htI : (t : Int) < (n : Int) := by omega
  have h8 := g.n8
  have hlen := g.len t ht
  have hnd := g.nodup t ht
  have HPL := Lib.hid (fun w' F c K' (hf : FreedAt w' F (l t) c K') => place_in hf hlen hnd k hk)
  obtain ⟨F, c, hc, hf⟩ := hrows.row t ht
  have HH0 := Lib.hid href.1
  have HF := Lib.hid hf
  have hr32 := hf.row32
  obtain ⟨fg, eF, _⟩ := hr32 k hk
  subst eF
  have HC : Hid (∀ j (hj : j < (l t).length), w.cell? ⟨fg, j, none⟩ = some (.int .i32 ((l t)[j] : Nat))) := Lib.hid (fun j hj => by
    obtain ⟨f', e, h⟩ := hr32 j hj
    injection e with e
    injection e with e
    subst e
    exact h)
  have hfg : fg < w.heap.size := World.block_lt_of_cell? w ⟨fg, k, none⟩ (HC.out k hk)
  clear hl hf hr32 hrows href hnd g
  obtain ⟨x, hx⟩ : ∃ x, (l t)[k] = x := ⟨_, rfl⟩
  obtain ⟨m, hm⟩ : ∃ m, (l t).length = m := ⟨_, rfl⟩
  have HB0 := Lib.hid ((Below.refl w.heap.size w).alloc (Nat.le_refl _) (.cells #[.int .i64 st.n, .int .i64 st.used, .slice Fo st.freed.length fc, .slice (some ⟨nb, 0, none⟩) (st.used + 1) nc, .slice (some ⟨o, 0, none⟩) n oc] 32))
  have HN0 := Lib.hid (heap_alloc_new w (.cells #[.int .i64 st.n, .int .i64 st.used, .slice Fo st.freed.length fc, .slice (some ⟨nb, 0, none⟩) (st.used + 1) nc, .slice (some ⟨o, 0, none⟩) n oc] 32))
  rw [hm] at HPL hlen hc
  rw [hx] at HL HPL ⊢
  have HX := Lib.hid hx
  have HM := Lib.hid hm
  have hkm : k < m := by omega
  have hkI : (k : Int) < (m : Int) := by omega
  clear hx
  have HAT : Hid (∀ w', Below w.heap.size w w' → Calls Try.prog 54 #[.slice (some ⟨fg, 0, none⟩) m c, .int .i32 x] w' fun e w'' => e = .returned (.int .i64 k) ∧ w' = w'') := Lib.hid (fun w' hb => by
    have hf := HF.out.later HH0.out hb
    exact HPL.out w' (some ⟨fg, 0, none⟩) c K hf)
  clear HPL hm
  cases k with
  | zero =>
    have eb : ((l t).take 0).getLastD 0 = 0 := by simp
    rw [eb]
    clear eb
    by_cases hnx : 0 + 1 < m
    · have ea : ((l t).drop (0 + 1)).headD 0 = (l t)[0 + 1]'(by rw [HM.out]; exact hnx) := by
        rw [List.headD_eq_head?_getD, List.head?_drop, List.getElem?_eq_getElem (by rw [HM.out]; exact hnx)]; rfl
      rw [ea]
      have hca := HC.out (0 + 1) (by rw [HM.out]; exact hnx)
      obtain ⟨a, ha⟩ : ∃ a, (l t)[0 + 1]'(by rw [HM.out]; exact hnx) = a := ⟨_, rfl⟩
      rw [ha] at hca ⊢
      have hnI : (1 : Int) < (m : Int) := by omega
      clear ea ha
      go_enter Try.func40, Try.ntmps40
      go_wp2_with fail
      refine (HL.out _ HB0.out).mono ?_
      rintro e w1 ⟨rfl, hb⟩
      have hb1 := HB0.out.trans (hb.mono HB0.out.size)
      obtain ⟨b0, b1, b2, b3, b4⟩ := five_cells ((hb.block w.heap.size (by simp)).trans HN0.out)
      have hc1 := (hb1.cell (p := ⟨o, t, none⟩) ho).trans hc
      have hca1 := (hb1.cell (p := ⟨fg, 0 + 1, none⟩) hfg).trans hca
      have HB1 := Lib.hid hb1
      clear hb hb1 hca
      go_wp2_with fail
      refine (HAT.out w1 HB1.out).mono ?_
      rintro e w' ⟨rfl, rfl⟩
      go_wp2
      go_ret2
      exact ⟨rfl, HB1.out⟩
    · have ea : ((l t).drop (0 + 1)).headD 0 = 0 := by rw [List.drop_of_length_le (by rw [HM.out]; omega)]; rfl
      rw [ea]
      have hnI : ¬ (1 : Int) < (m : Int) := by omega
      clear ea
      go_enter Try.func40, Try.ntmps40
      go_wp2_with fail
      refine (HL.out _ HB0.out).mono ?_
      rintro e w1 ⟨rfl, hb⟩
      have hb1 := HB0.out.trans (hb.mono HB0.out.size)
      obtain ⟨b0, b1, b2, b3, b4⟩ := five_cells ((hb.block w.heap.size (by simp)).trans HN0.out)
      have hc1 := (hb1.cell (p := ⟨o, t, none⟩) ho).trans hc
      have HB1 := Lib.hid hb1
      clear hb hb1
      go_wp2_with fail
      refine (HAT.out w1 HB1.out).mono ?_
      rintro e w' ⟨rfl, rfl⟩
      go_wp2
      go_ret2
      exact ⟨rfl, HB1.out⟩
  | succ j =>
    have hjl : j < (l t).length := by rw [HM.out]; omega
    have eb : ((l t).take (j + 1)).getLastD 0 = (l t)[j] := by
      rw [List.take_succ_eq_append_getElem hjl, List.getLastD_eq_getLast?, List.getLast?_append]
      simp
    rw [eb]
    clear eb
    have hcb := HC.out j hjl
    obtain ⟨z, hz⟩ : ∃ z, (l t)[j] = z := ⟨_, rfl⟩
    rw [hz] at hcb ⊢
    clear hz hjl
    have e1 : ((j + 1 : Nat) : Int) = (j : Int) + 1 := by omega
    have hj1 : j + 1 < m := hkm
    have hjI : (j : Int) < (m : Int) := by omega
    have hjp : (0 : Int) < (j : Int) + 1 := by omega
    rw [e1] at HAT
    by_cases hnx : j + 1 + 1 < m
    · have ea : ((l t).drop (j + 1 + 1)).headD 0 = (l t)[j + 1 + 1]'(by rw [HM.out]; exact hnx) := by
        rw [List.headD_eq_head?_getD, List.head?_drop, List.getElem?_eq_getElem (by rw [HM.out]; exact hnx)]; rfl
      rw [ea]
      have hca := HC.out (j + 1 + 1) (by rw [HM.out]; exact hnx)
      obtain ⟨a, ha⟩ : ∃ a, (l t)[j + 1 + 1]'(by rw [HM.out]; exact hnx) = a := ⟨_, rfl⟩
      rw [ha] at hca ⊢
      have hnI : (j : Int) + 1 + 1 < (m : Int) := by omega
      clear ea ha e1 hkI
      go_enter Try.func40, Try.ntmps40
      go_wp2_with fail
      refine (HL.out _ HB0.out).mono ?_
      rintro e w1 ⟨rfl, hb⟩
      have hb1 := HB0.out.trans (hb.mono HB0.out.size)
      obtain ⟨b0, b1, b2, b3, b4⟩ := five_cells ((hb.block w.heap.size (by simp)).trans HN0.out)
      have hc1 := (hb1.cell (p := ⟨o, t, none⟩) ho).trans hc
      have hca1 := (hb1.cell (p := ⟨fg, j + 1 + 1, none⟩) hfg).trans hca
      have hcb1 := (hb1.cell (p := ⟨fg, j, none⟩) hfg).trans hcb
      have HB1 := Lib.hid hb1
      clear hb hb1 hca hcb
      go_wp2_with fail
      refine (HAT.out w1 HB1.out).mono ?_
      rintro e w' ⟨rfl, rfl⟩
      go_wp2
      go_ret2
      exact ⟨rfl, HB1.out⟩
    · have ea : ((l t).drop (j + 1 + 1)).headD 0 = 0 := by rw [List.drop_of_length_le (by rw [HM.out]; omega)]; rfl
      rw [ea]
      have hnI : ¬ (j : Int) + 1 + 1 < (m : Int) := by omega
      clear ea e1 hkI
      go_enter Try.func40, Try.ntmps40
      go_wp2_with fail
      refine (HL.out _ HB0.out).mono ?_
      rintro e w1 ⟨rfl, hb⟩
      have hb1 := HB0.out.trans (hb.mono HB0.out.size)
      obtain ⟨b0, b1, b2, b3, b4⟩ := five_cells ((hb.block w.heap.size (by simp)).trans HN0.out)
      have hc1 := (hb1.cell (p := ⟨o, t, none⟩) ho).trans hc
      have hcb1 := (hb1.cell (p := ⟨fg, j, none⟩) hfg).trans hcb
      have HB1 := Lib.hid hb1
      clear hb hb1 hcb
      go_wp2_with fail
      refine (HAT.out w1 HB1.out).mono ?_
      rintro e w' ⟨rfl, rfl⟩
      go_wp2
      go_ret2
      exact ⟨rfl, HB1.out⟩
end
end Go.Proofs.Ytlmcodmglcmmoaa
