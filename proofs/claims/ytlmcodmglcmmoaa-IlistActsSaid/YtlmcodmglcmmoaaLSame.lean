/- The laws' same: the lists, and the document's own, side by side. -/
import Derived.Test.YtlmcodmglcmmoaaRlE
import Derived.Test.YtlmcodmglcmmoaaRlQ
import Derived.Test.YtlmcodmglcmmoaaLRound
namespace Go.Proofs.Ytlmcodmglcmmoaa
open Go Go.RowKit Go.Deep

section
variable {w0 w : World} {p b n : Nat} {l : Nat → List Nat} {A st : St} {K Kr : List Nat} {v : Value}
theorem near_facts (h : HL w0 w p b n l A K) (hr : RefL w v n l st Kr) (i : Int) (h32 : i ≤ 2147483647) : ∃ q bf af : Int,
    (∀ w', Below w.heap.size w w' → Calls Try.prog 40 #[v, .int .i32 i] w' fun e w'' => e = .returned (.tuple #[.int .i32 bf, .int .i32 af]) ∧ Below w'.heap.size w' w'') ∧
    (∀ w', Below w.heap.size w w' → Calls Try.prog 41 #[v, .int .i32 i] w' fun e w'' => e = .returned (.int .i64 q) ∧ Below w'.heap.size w' w'') ∧
    (∀ w', Below w.heap.size w w' → Calls Try.prog 21 #[.pointer (some ⟨p, 0, none⟩), .int .i32 i] w' fun e w'' => e = .returned (.int .i64 q) ∧ Below w'.heap.size w' w'') ∧
    (∀ w', Below w.heap.size w w' → Calls Try.prog 24 #[.pointer (some ⟨p, 0, none⟩), .int .i32 i] w' fun e w'' => e = .returned (.int .i32 bf) ∧ Below w'.heap.size w' w'') ∧
    (∀ w', Below w.heap.size w w' → Calls Try.prog 29 #[.pointer (some ⟨p, 0, none⟩), .int .i32 i] w' fun e w'' => e = .returned (.int .i32 af) ∧ Below w'.heap.size w' w'') := by
  have g := h.gd
  rcases g.cases i with ⟨t, k, hk, ht, rfl, _⟩ | ⟨_, e⟩
  · exact ⟨_, _, _, fun w' hb => rlnear_in (hr.below hb) g t k ht hk, fun w' hb => rltag_walk (hr.below hb) g _, fun w' hb => hl_tag (h.still hb).1 _ h32, fun w' hb => hl_before (h.still hb).1 ht hk, fun w' hb => hl_after (h.still hb).1 ht hk⟩
  · exact ⟨_, _, _, fun w' hb => rlnear_out (hr.below hb) g i e, fun w' hb => rltag_walk (hr.below hb) g _, fun w' hb => hl_tag (h.still hb).1 _ h32, fun w' hb => hl_before_none (h.still hb).1 i h32 e, fun w' hb => hl_after_none (h.still hb).1 i h32 e⟩

theorem own_row32 {w : World} {B : Nat} {v : Value} {xs : List Nat} (h : w.ownsRow B 21 1 v xs.length (slots xs)) : ∃ F c, v = .slice F xs.length c ∧ Row32 w F xs := by
  obtain ⟨F, c, e, hF⟩ := own_slots h
  exact ⟨F, c, e, fun k hk => hF w (Below.refl _ _) k hk⟩

theorem head_last (xs : List Nat) (hp : 0 < xs.length) : xs.headD 0 = xs[0] ∧ xs.getLastD 0 = xs[xs.length - 1] := by
  refine ⟨?_, ?_⟩
  · rw [List.headD_eq_head?_getD, List.head?_eq_getElem?, List.getElem?_eq_getElem hp]; rfl
  · have := last_take xs (xs.length - 1) (by omega)
    rwa [show xs.length - 1 + 1 = xs.length by omega, List.take_length] at this

set_option maxHeartbeats 1000000 in
theorem same_walk (h : HL w0 w p b n l A K) (hr : RefL w v n l st Kr) :
    Calls Try.prog 12 #[.pointer (some ⟨p, 0, none⟩), v] w fun e w' => e = .returned (.bool true) ∧ Below w.heap.size w w' := by
  have H := Lib.hid h
  have HR := Lib.hid hr
  have HG := Lib.hid h.gd
  obtain ⟨Fo, fc, nb, nc, o, oc, rfl, _⟩ := hr
  have HNW := Lib.hid (heap_alloc_new w (.cells #[.int .i64 st.n, .int .i64 st.used, .slice Fo st.freed.length fc, .slice (some ⟨nb, 0, none⟩) (st.used + 1) nc, .slice (some ⟨o, 0, none⟩) n oc] 32))
  have HNB := Lib.hid ((Below.refl w.heap.size w).alloc (Nat.le_refl _) (.cells #[.int .i64 st.n, .int .i64 st.used, .slice Fo st.freed.length fc, .slice (some ⟨nb, 0, none⟩) (st.used + 1) nc, .slice (some ⟨o, 0, none⟩) n oc] 32))
  clear h
  go_enter Try.func12, Try.ntmps12
  go_wp2_with fail
  go_loopg [5] 5 (fun g s5 wr => ∃ k : Nat, k + g = 5 ∧ s5 = .int .i64 ((k : Int) - 1) ∧ Hid (Below w.heap.size w wr ∧ w.heap.size < wr.heap.size ∧ wr.heap[w.heap.size]? = some (.cells #[.int .i64 st.n, .int .i64 st.used, .slice Fo st.freed.length fc, .slice (some ⟨nb, 0, none⟩) (st.used + 1) nc, .slice (some ⟨o, 0, none⟩) n oc] 32 (0, 0))))
  case atStart => exact ⟨0, by omega, rfl, Lib.hid ⟨HNB.out, by simp, HNW.out⟩⟩
  case round =>
    obtain ⟨k, hk, rfl, HI⟩ := hrel
    by_cases hlt : k < 5
    · have hltI : (k : Int) - 1 < 4 := by omega
      obtain ⟨xs, hxs⟩ : ∃ xs, allL n l ((k : Int) - 1) = xs := ⟨_, rfl⟩
      have hal := rlall_walk (HR.out.below HI.out.1) HG.out ((k : Int) - 1)
      have hLn := fun w' (hb : Below w.heap.size w w') => hl_len (H.out.still hb).1 ((k : Int) - 1)
      have hFr := fun w' (hb : Below w.heap.size w w') => hl_front (H.out.still hb).1 ((k : Int) - 1)
      have hBk := fun w' (hb : Below w.heap.size w w') => hl_back (H.out.still hb).1 ((k : Int) - 1)
      have hAl := fun w' (hb : Below w.heap.size w w') => all_walk (H.out.still hb).1 ((k : Int) - 1)
      have hlen := H.out.allLen ((k : Int) - 1)
      rw [allL_len, hxs] at hLn
      rw [allL_front, hxs] at hFr
      rw [back_all, hxs] at hBk
      rw [hxs] at hal hAl hlen
      obtain ⟨tg, htg⟩ : ∃ tg, (k : Int) - 1 = tg := ⟨_, rfl⟩
      rw [htg] at hal hLn hFr hBk hAl hltI ⊢
      have htlo : -1 ≤ tg := by omega
      have HTG := Lib.hid htg
      obtain ⟨b0, b1, b2, b3, b4⟩ := five_cells HI.out.2.2
      have hz := HI.out.2.1
      have HNEXT : Hid (∀ w', Below wr.heap.size wr w' → Below w.heap.size w w' ∧ w.heap.size < w'.heap.size ∧ w'.heap[w.heap.size]? = some (.cells #[.int .i64 st.n, .int .i64 st.used, .slice Fo st.freed.length fc, .slice (some ⟨nb, 0, none⟩) (st.used + 1) nc, .slice (some ⟨o, 0, none⟩) n oc] 32 (0, 0))) := Lib.hid (fun w' hb => ⟨HI.out.1.trans (hb.mono HI.out.1.size), Nat.lt_of_lt_of_le HI.out.2.1 hb.size, (hb.block w.heap.size HI.out.2.1).trans HI.out.2.2⟩)
      have HSM : Hid (∀ w' F G c d, Row32 w' F xs → Row32 w' G xs → Calls Try.prog 39 #[.slice F xs.length c, .slice G xs.length d] w' fun e w'' => e = .returned (.bool true) ∧ Below w'.heap.size w' w'') := Lib.hid (fun w' F G c d hF hG => rlsame_walk hF hG hlen)
      rcases Nat.eq_zero_or_pos xs.length with h0 | hp
      · have hx0 : xs = [] := List.eq_nil_of_length_eq_zero h0
        have hf0 : xs.headD 0 = 0 := by rw [hx0]; rfl
        have hl0 : xs.getLastD 0 = 0 := by rw [hx0]; rfl
        rw [h0] at hal hLn
        rw [hf0] at hFr
        rw [hl0] at hBk
        have HAL := Lib.hid hal
        have HLN := Lib.hid hLn
        have HFR := Lib.hid hFr
        have HBK := Lib.hid hBk
        have HAA := Lib.hid hAl
        have HZ0 := Lib.hid h0
        clear hal hLn hFr hBk hAl hxs htg hf0 hl0 hx0 h0 hlen
        go_wp2_with fail
        refine HAL.out.mono ?_
        rintro e w2 ⟨F, c, rfl, hb2, hf2⟩
        have HB2 := Lib.hid hb2
        have HF2 := Lib.hid hf2
        clear hb2 hf2
        go_wp2_with fail
        refine (HAA.out w2 (HNEXT.out w2 HB2.out).1).mono ?_
        rintro e w3 ⟨v3, rfl, hv3, hb3⟩
        obtain ⟨G, d, rfl, hG⟩ := own_row32 hv3
        have HB3 := Lib.hid (HB2.out.trans (hb3.mono HB2.out.size))
        have HSM3 := HSM.out w3 G F d c hG (HF2.out.later (fun y hy => Nat.lt_of_lt_of_le (HR.out.old y hy) (HNEXT.out w2 HB2.out).1.size) hb3).row32
        rw [HZ0.out] at HSM3 ⊢
        have HSM3' := Lib.hid HSM3
        clear hv3 hb3 hG HSM3
        go_wp2_with fail
        refine HSM3'.out.mono ?_
        rintro e w4 ⟨rfl, hb4⟩
        have HB4 := Lib.hid (HB3.out.trans (hb4.mono HB3.out.size))
        clear hb4
        go_wp2_with fail
        refine (HLN.out w4 (HNEXT.out w4 HB4.out).1).mono ?_
        rintro e w' ⟨rfl, rfl⟩
        go_wp2_with fail
        refine (HFR.out w4 (HNEXT.out w4 HB4.out).1).mono ?_
        rintro e w' ⟨rfl, rfl⟩
        go_wp2_with fail
        refine (HBK.out w4 (HNEXT.out w4 HB4.out).1).mono ?_
        rintro e w' ⟨rfl, rfl⟩
        go_wp2
        go_roundg (gk - 1)
        case measure => omega
        case rel => exact ⟨k + 1, by omega, congrArg (Value.int .i64) (by have := HTG.out; omega), Lib.hid (HNEXT.out w4 HB4.out)⟩
      · obtain ⟨hhd, hld⟩ := head_last xs hp
        rw [hhd] at hFr
        rw [hld] at hBk
        obtain ⟨m, hm⟩ : ∃ m, xs.length = m := ⟨_, rfl⟩
        have HROW : Hid (∀ w' F c Kx, FreedAt w' F xs c Kx → ∃ g, F = some ⟨g, 0, none⟩ ∧ w'.cell? ⟨g, 0, none⟩ = some (.int .i32 (xs[0] : Nat)) ∧ w'.cell? ⟨g, xs.length - 1, none⟩ = some (.int .i32 (xs[xs.length - 1] : Nat))) := Lib.hid (fun w' F c Kx hf => by
          obtain ⟨g, e, h1⟩ := hf.row32 0 hp
          obtain ⟨g', e', h2⟩ := hf.row32 (xs.length - 1) (by omega)
          rw [e] at e'
          injection e' with e'
          injection e' with e'
          subst e'
          exact ⟨g, e, h1, h2⟩)
        obtain ⟨x0, hx0⟩ : ∃ x0, xs[0] = x0 := ⟨_, rfl⟩
        obtain ⟨x1, hx1⟩ : ∃ x1, xs[xs.length - 1] = x1 := ⟨_, rfl⟩
        rw [hx0] at hFr HROW
        rw [hx1] at hBk HROW
        rw [hm] at hal hLn hAl HSM HROW
        have hpm : 0 < m := by omega
        have hpI : (0 : Int) < (m : Int) := by omega
        have hml : (m : Int) ≤ 1000000 := by omega
        have em : ((m - 1 : Nat) : Int) = (m : Int) - 1 := by omega
        have HM := Lib.hid hm
        have HAL := Lib.hid hal
        have HLN := Lib.hid hLn
        have HFR := Lib.hid hFr
        have HBK := Lib.hid hBk
        have HAA := Lib.hid hAl
        have HEM := Lib.hid em
        clear hal hLn hFr hBk hAl hxs htg hx0 hx1 hhd hld hm hp hlen em
        go_wp2_with fail
        refine HAL.out.mono ?_
        rintro e w2 ⟨F, c, rfl, hb2, hf2⟩
        obtain ⟨fg, rfl, hc0, hc1⟩ := HROW.out w2 _ _ _ hf2
        have HB2 := Lib.hid hb2
        have HF2 := Lib.hid hf2
        clear hb2 hf2
        go_wp2_with fail
        refine (HAA.out w2 (HNEXT.out w2 HB2.out).1).mono ?_
        rintro e w3 ⟨v3, rfl, hv3, hb3⟩
        obtain ⟨G, d, e3, hG⟩ := own_row32 (xs := xs) (w := w3) (B := w2.heap.size) (v := v3) (by rw [HM.out]; exact hv3)
        rw [HM.out] at e3
        subst e3
        have HB3 := Lib.hid (HB2.out.trans (hb3.mono HB2.out.size))
        have HSM3 := Lib.hid (HSM.out w3 G (some ⟨fg, 0, none⟩) d c hG (HF2.out.later (fun y hy => Nat.lt_of_lt_of_le (HR.out.old y hy) (HNEXT.out w2 HB2.out).1.size) hb3).row32)
        clear hv3 hb3 hG hc0 hc1
        go_wp2_with fail
        refine HSM3.out.mono ?_
        rintro e w4 ⟨rfl, hb4⟩
        have HB4 := Lib.hid (HB3.out.trans (hb4.mono HB3.out.size))
        clear hb4
        go_wp2_with fail
        refine (HLN.out w4 (HNEXT.out w4 HB4.out).1).mono ?_
        rintro e w' ⟨rfl, rfl⟩
        go_wp2_with fail
        refine (HFR.out w4 (HNEXT.out w4 HB4.out).1).mono ?_
        rintro e w' ⟨rfl, rfl⟩
        go_wp2_with fail
        refine (HBK.out w4 (HNEXT.out w4 HB4.out).1).mono ?_
        rintro e w' ⟨rfl, rfl⟩
        go_wp2
        go_roundg (gk - 1)
        case measure => omega
        case rel => exact ⟨k + 1, by omega, congrArg (Value.int .i64) (by have := HTG.out; omega), Lib.hid (HNEXT.out w4 HB4.out)⟩
    · have hltI : ¬ (k : Int) - 1 < 4 := by omega
      go_wp2_with fail
      go_loopg [9] 10 (fun g s9 wr2 => ∃ k2 : Nat, k2 + g = 10 ∧ s9 = .int .i32 ((k2 : Int) - 1) ∧ Hid (Below w.heap.size w wr2 ∧ w.heap.size < wr2.heap.size ∧ wr2.heap[w.heap.size]? = some (.cells #[.int .i64 st.n, .int .i64 st.used, .slice Fo st.freed.length fc, .slice (some ⟨nb, 0, none⟩) (st.used + 1) nc, .slice (some ⟨o, 0, none⟩) n oc] 32 (0, 0))))
      case atStart => exact ⟨0, by omega, rfl, HI⟩
      case round =>
        obtain ⟨k2, hk2, rfl, HI2⟩ := hrel
        by_cases hlt9 : k2 < 10
        · have hlt9I : (k2 : Int) - 1 < 9 := by omega
          obtain ⟨q, bf, af, hN, hT1, hT2, hB, hA⟩ := near_facts H.out HR.out ((k2 : Int) - 1) (by omega)
          obtain ⟨ix, hix⟩ : ∃ ix, (k2 : Int) - 1 = ix := ⟨_, rfl⟩
          rw [hix] at hN hT1 hT2 hB hA hlt9I ⊢
          have hixlo : -1 ≤ ix := by omega
          have HIX := Lib.hid hix
          have HN := Lib.hid hN
          have HT1 := Lib.hid hT1
          have HT2 := Lib.hid hT2
          have HBF := Lib.hid hB
          have HAF := Lib.hid hA
          obtain ⟨b0, b1, b2, b3, b4⟩ := five_cells HI2.out.2.2
          have hz := HI2.out.2.1
          have HNEXT : Hid (∀ w', Below wr.heap.size wr w' → Below w.heap.size w w' ∧ w.heap.size < w'.heap.size ∧ w'.heap[w.heap.size]? = some (.cells #[.int .i64 st.n, .int .i64 st.used, .slice Fo st.freed.length fc, .slice (some ⟨nb, 0, none⟩) (st.used + 1) nc, .slice (some ⟨o, 0, none⟩) n oc] 32 (0, 0))) := Lib.hid (fun w' hb => ⟨HI2.out.1.trans (hb.mono HI2.out.1.size), Nat.lt_of_lt_of_le HI2.out.2.1 hb.size, (hb.block w.heap.size HI2.out.2.1).trans HI2.out.2.2⟩)
          clear hN hT1 hT2 hB hA hix
          go_wp2_with fail
          refine (HN.out wr HI2.out.1).mono ?_
          rintro e w3 ⟨rfl, hb3⟩
          have HB3 := Lib.hid hb3
          have HC3 := Lib.hid (fun w' hb => five_cells (HNEXT.out w' (hb3.trans (Below.mono (w' := w') hb hb3.size))).2.2)
          have cc3 := five_cells (HNEXT.out w3 hb3).2.2
          obtain ⟨cc0, cc1, cc2, cc33, cc4⟩ := cc3
          have HW3 := Lib.hid (HNEXT.out w3 hb3).1
          clear b0 b1 b2 b3 b4 hb3
          go_wp2_with fail
          go_region_held3 (fun w' => w'.cell? ⟨w.heap.size, 0, none⟩ = some (.int .i64 st.n) ∧ w'.cell? ⟨w.heap.size, 1, none⟩ = some (.int .i64 st.used) ∧ w'.cell? ⟨w.heap.size, 2, none⟩ = some (.slice Fo st.freed.length fc) ∧ w'.cell? ⟨w.heap.size, 3, none⟩ = some (.slice (some ⟨nb, 0, none⟩) (st.used + 1) nc) ∧ w'.cell? ⟨w.heap.size, 4, none⟩ = some (.slice (some ⟨o, 0, none⟩) n oc))
            (first | with_reducible exact kk8 | with_reducible exact kk7 | with_reducible exact kk6 | with_reducible exact kk5 | go_keep)
            (first
              | (go_at_call 21; refine (HT2.out _ (HW3.out.trans (Below.refl _ _).drew)).mono ?_; rintro e w5 ⟨rfl, d5⟩; have a5 := (Below.refl w3.heap.size w3).drew.trans d5; have kk5 := HC3.out w5 a5)
              | (go_at_call 41; refine (HT1.out _ (HW3.out.trans (a5.mono HW3.out.size))).mono ?_; rintro e w6 ⟨rfl, d6⟩; have a6 := a5.trans (d6.mono a5.size); have kk6 := HC3.out w6 a6)
              | (go_at_call 24; refine (HBF.out _ (HW3.out.trans (a6.mono HW3.out.size))).mono ?_; rintro e w7 ⟨rfl, d7⟩; have a7 := a6.trans (d7.mono a6.size); have kk7 := HC3.out w7 a7)
              | (go_at_call 29; refine (HAF.out _ (HW3.out.trans (a7.mono HW3.out.size))).mono ?_; rintro e w8 ⟨rfl, d8⟩; have a8 := a7.trans (d8.mono a7.size); have kk8 := HC3.out w8 a8))
          have HB8 := Lib.hid (HB3.out.trans (a8.mono HB3.out.size))
          clear a5 a6 a7 a8 d5 d6 d7 d8 kk5 kk6 kk7 kk8
          go_wp2
          go_roundg (gk - 1)
          case measure => omega
          case rel => exact ⟨k2 + 1, by omega, congrArg (Value.int .i32) (by have := HIX.out; omega), Lib.hid (HNEXT.out w8 HB8.out)⟩
        · have hlt9I : ¬ (k2 : Int) - 1 < 9 := by omega
          have HE := Lib.hid HI2.out.1
          go_wp2
          go_ret
          exact ⟨rfl, HE.out⟩
end
end Go.Proofs.Ytlmcodmglcmmoaa
