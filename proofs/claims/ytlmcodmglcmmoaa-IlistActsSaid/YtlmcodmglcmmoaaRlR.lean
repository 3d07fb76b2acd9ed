/- The document's own lists: Remove. -/
import Derived.Test.YtlmcodmglcmmoaaRlW
import Derived.Test.YtlmcodmglcmmoaaLsA
namespace Go.Proofs.Ytlmcodmglcmmoaa
open Go Go.RowKit Go.Deep

theorem own_freedAt {w : World} {B : Nat} {v : Value} {xs : List Nat} (h : w.ownsRow B 21 1 v xs.length (slots xs)) : ∃ F c Kx, v = .slice F xs.length c ∧ FreedAt w F xs c Kx ∧ ∀ k ∈ Kx, B ≤ k ∧ k < w.heap.size := by
  rcases h.2 with ⟨rfl, h0⟩ | ⟨g, cap, cur, rfl, hg, hc, hle, _, hcs, ht⟩
  · exact ⟨none, 0, [], by rw [h0], ⟨by omega, .inl ⟨rfl, List.eq_nil_of_length_eq_zero h0, rfl⟩⟩, by simp⟩
  · have hlt : g < w.heap.size := (Array.getElem?_eq_some_iff.1 hc).1
    refine ⟨_, _, [g], rfl, ⟨hle, .inr ⟨g, rfl, by simp, fun i hi => ?_⟩⟩, fun k hk => ?_⟩
    · have := own_cells h i (by simpa [slots] using hi)
      rw [this]
      simp [slots]
    · obtain rfl : k = g := by simpa using hk
      exact ⟨hg, hlt⟩
theorem erase_at : ∀ (xs : List Nat), xs.Nodup → ∀ (k : Nat) (hk : k < xs.length), xs.erase xs[k] = xs.take k ++ xs.drop (k + 1)
  | [], _, k, hk => by simp at hk
  | a :: r, _, 0, _ => by simp
  | a :: r, hn, k + 1, hk => by
    have hn' := List.nodup_cons.1 hn
    have hk' : k < r.length := by simpa using hk
    have hne : a ≠ r[k] := fun e => hn'.1 (e ▸ List.getElem_mem hk')
    simp only [List.getElem_cons_succ, List.take_succ_cons, List.drop_succ_cons, List.cons_append]
    rw [List.erase_cons_tail (by simpa using hne), erase_at r hn'.2 k hk']

theorem RefL.kept {w w' : World} {v : Value} {n : Nat} {l : Nat → List Nat} {st : St} {K : List Nat} (h : RefL w v n l st K) (hk : Kept K w w') (h1 : ∀ k ∈ K, k < w'.heap.size) : RefL w' v n l st K := by
  obtain ⟨Fo, fc, nb, nc, o, oc, e, g1, g2, g3⟩ := h
  refine ⟨Fo, fc, nb, nc, o, oc, e, g1, g2.kept2 hk h1, g3.kin, fun t ht => ?_⟩
  obtain ⟨F, c, q1, q2⟩ := g3.row t ht
  exact ⟨F, c, (World.cell?_of_block (w := w) (a := ⟨o, t, none⟩) (hk o g3.kin)).trans q1, q2.kept hk⟩

section
variable {w : World} {v : Value} {n : Nat} {l : Nat → List Nat} {st : St} {K : List Nat}
theorem rlrem_out (h : RefL w v n l st K) (g : Gd n l) (i : Int) (hi : tagI n l i = -1) :
    Calls Try.prog 36 #[v, .int .i32 i] w (RlNext w K n l st (fun v' => .tuple #[v', .bool false])) := by
  have hl := fun w' hb => rltag_walk (h.below (w' := w') hb) g i
  rw [hi] at hl
  have HRL := Lib.hid h
  obtain ⟨Fo, fc, nb, nc, o, oc, rfl, _⟩ := h
  have HL := Lib.hid hl
  clear hl hi g
  go_enter Try.func36, Try.ntmps36
  go_wp2_with fail
  refine (HL.out _ (((Below.refl _ _).alloc (Nat.le_refl _) _).alloc (by simp) _)).mono ?_
  rintro e w1 ⟨rfl, hb⟩
  obtain ⟨hb1, hs1, hB0, hB1⟩ := two_blocks hb
  obtain ⟨c0, c1, c2, c3, c4⟩ := five_cells hB0
  obtain ⟨x0, x1, x2, x3, x4⟩ := five_cells hB1
  obtain ⟨z0, z1, z2, z3, z4⟩ := five_free hB1
  have HB := Lib.hid hb1
  have H4 := Lib.hid (fiveR_set hB1 (.int .i64 st.n) (.int .i64 st.used) (.slice Fo st.freed.length fc) (.slice (some ⟨nb, 0, none⟩) (st.used + 1) nc) (.slice (some ⟨o, 0, none⟩) n oc))
  clear hb hb1 hB0 hB1
  go_wp2
  have h4 := H4.out
  generalize (((((w1.setCell ⟨w.heap.size + 1, 0, none⟩ (.int .i64 st.n)).setCell ⟨w.heap.size + 1, 1, none⟩ (.int .i64 st.used)).setCell ⟨w.heap.size + 1, 2, none⟩ (.slice Fo st.freed.length fc)).setCell ⟨w.heap.size + 1, 3, none⟩ (.slice (some ⟨nb, 0, none⟩) (st.used + 1) nc)).setCell ⟨w.heap.size + 1, 4, none⟩ (.slice (some ⟨o, 0, none⟩) n oc)) = W at h4 ⊢
  clear x0 x1 x2 x3 x4 z0 z1 z2 z3 z4
  obtain ⟨y0, y1, y2, y3, y4⟩ := five_cells h4.1
  have hbW := below_only HB.out h4.2 (by omega)
  exact bodyPost_ret (v := .tuple #[refLs st.n st.used Fo st.freed.length fc nb (st.used + 1) nc (some ⟨o, 0, none⟩) n oc, .bool false]) (by simp [results, Try.results36, go_sem, y0, y1, y2, y3, y4]) rfl ⟨_, K, rfl, hbW, HRL.out.below hbW, fun k hk => .inl hk⟩

set_option maxHeartbeats 1000000 in
theorem rlrem_in (h : RefL w v n l st K) (g : Gd n l) (t k : Nat) (ht : t < n) (hk : k < (l t).length) :
    Calls Try.prog 36 #[v, .int .i32 ((l t)[k] : Nat)] w (RlNext w K n (upd l t ((l t).erase (l t)[k])) st (fun v' => .tuple #[v', .bool true])) := by
  have hl := fun w' hb => rltag_walk (h.below (w' := w') hb) g ((l t)[k] : Nat)
  rw [g.tag_in ht (List.getElem_mem hk)] at hl
  have HRL := Lib.hid h
  have her := erase_at (l t) (g.nodup t ht) k hk
  rw [her]
  clear her
  obtain ⟨Fo, fc, nb, nc, o, oc, rfl, hoc, href, hrows⟩ := h
  have HL := Lib.hid hl
  have ho : o < w.heap.size := href.1 o hrows.kin
  have htI : (t : Int) < (n : Int) := by omega
  have h8 := g.n8
  have hlen := g.len t ht
  have hnd := g.nodup t ht
  have HPL := Lib.hid (fun w' F c K' (hf : FreedAt w' F (l t) c K') => place_in hf hlen hnd k hk)
  obtain ⟨F, c, hc, hf⟩ := hrows.row t ht
  have HH0 := Lib.hid href.1
  have hcap := hf.cap
  have HWT := Lib.hid (fun w' (hb : Below w.heap.size w w') F xs c Kx (hx : FreedAt w' F xs c Kx) (hKx : ∀ k ∈ Kx, k < w'.heap.size) => rlwith_walk (HRL.out.below hb) h8 t ht F xs c hx hKx)
  obtain ⟨fg, eF, hfK, hcells⟩ : ∃ fg, F = some ⟨fg, 0, none⟩ ∧ fg ∈ K ∧ ∀ j (hj : j < (l t).length), w.cell? ⟨fg, j, none⟩ = some (.int .i32 ((l t)[j] : Nat)) := by
    rcases hf.mem with ⟨_, e, _⟩ | ⟨fb, e, hm, hc⟩
    · rw [e] at hk; simp at hk
    · exact ⟨fb, e, hm, hc⟩
  subst eF
  have hfg : fg < w.heap.size := href.1 fg hfK
  have HF := Lib.hid hf
  have HC := Lib.hid hcells
  clear hl hf hrows href hnd g hcells hfK
  obtain ⟨x, hx⟩ : ∃ x, (l t)[k] = x := ⟨_, rfl⟩
  obtain ⟨xs, hxs⟩ : ∃ xs, l t = xs := ⟨_, rfl⟩
  have HX := Lib.hid hx
  rw [hx] at HL HPL ⊢
  clear hx
  have hkx : k < xs.length := by rw [← hxs]; exact hk
  have HAT : Hid (∀ w', Below w.heap.size w w' → Calls Try.prog 54 #[.slice (some ⟨fg, 0, none⟩) xs.length c, .int .i32 x] w' fun e w'' => e = .returned (.int .i64 k) ∧ w' = w'') := Lib.hid (fun w' hb => by
    have := HPL.out w' (some ⟨fg, 0, none⟩) c K (HF.out.later HH0.out hb)
    rwa [hxs] at this)
  have HC' : Hid (∀ j (hj : j < xs.length), w.cell? ⟨fg, j, none⟩ = some (.int .i32 (xs[j] : Nat))) := Lib.hid (by subst hxs; exact HC.out)
  rw [hxs] at hlen hcap hc ⊢
  clear HX HPL HC HF hxs hk
  have hkI : (k : Int) < (xs.length : Int) := by omega
  go_enter Try.func36, Try.ntmps36
  go_wp2_with fail
  refine (HL.out _ (((Below.refl _ _).alloc (Nat.le_refl _) _).alloc (by simp) _)).mono ?_
  rintro e w1 ⟨rfl, hb⟩
  obtain ⟨hb1, hs1, hB0, hB1⟩ := two_blocks hb
  obtain ⟨b0, b1, b2, b3, b4⟩ := five_cells hB0
  have hc1 := (hb1.cell (p := ⟨o, t, none⟩) ho).trans hc
  have HB1 := Lib.hid hb1
  have HBB0 := Lib.hid hB0
  have HBB1 := Lib.hid hB1
  have hs0 : w.heap.size < w1.heap.size := by omega
  have hso : o < w1.heap.size := by omega
  have hsf : fg < w1.heap.size := by omega
  clear hb hb1 hB0 hB1 hc
  go_wp2_with fail
  refine (HAT.out w1 HB1.out).mono ?_
  rintro e w' ⟨rfl, rfl⟩
  have hown := World.ownsRow_lit (base := w1.heap.size) (e := 21) (size := 1) w1 #[] 0 (Nat.le_refl _) (by unfold maxLen; omega) rfl
  have HOWN := Lib.hid hown
  have HSRC : Hid ((some (⟨fg, 0, none⟩ : Addr) = none ∧ k = 0 ∧ c = 0 ∧ slots (xs.take k) = []) ∨ ∃ ad, some (⟨fg, 0, none⟩ : Addr) = some ad ∧ (slots (xs.take k)).length = k * 1 ∧ ∀ j u, (slots (xs.take k))[j]? = some u → (w1.alloc (.cells #[] 21)).cell? (ad.add j) = some u) := Lib.hid (.inr ⟨_, rfl, by simp [slots]; omega, fun j u hu => by
    have hj : j < k := by
      rcases Nat.lt_or_ge j k with h | h
      · exact h
      · rw [List.getElem?_eq_none (by simp [slots]; omega)] at hu; cases hu
    rw [show (⟨fg, 0, none⟩ : Addr).add j = ⟨fg, j, none⟩ by simp [Addr.add_lit], World.cell?_alloc_lt _ _ _ (by exact hsf)]
    rw [(HB1.out.cell (p := ⟨fg, j, none⟩) hfg), HC'.out j (by omega)]
    simp only [slots, List.getElem?_map] at hu
    rw [List.getElem?_take_of_lt hj, List.getElem?_eq_getElem (by omega)] at hu
    simpa using hu⟩)
  have HONE : Hid (∀ u ∈ slots (xs.take k), u.oneCell' = true) := Lib.hid (by
    intro u hu
    simp only [slots, List.mem_map] at hu
    obtain ⟨_, _, rfl⟩ := hu
    rfl)
  clear hown
  go_wp2_with (at_builtin; refine wpList_append_src rfl (.tmp 22) (.tmp 29) 26 rfl w1.heap.size 21 (.int .i32 0) 1 4 (by kernel_rfl) (by kernel_rfl) rfl (by decide) _ 0 _ rfl HOWN.out (some ⟨fg, 0, none⟩) k c (slots (xs.take k)) rfl HSRC.out HONE.out (by omega) (by omega) (by simp) ?_)
  intro v2 w2 hown2 hgrow2
  have hbl2 : Below w1.heap.size w1 w2 := below_grown ((Below.refl w1.heap.size w1).alloc (Nat.le_refl _) _) HOWN.out hgrow2 (by simp)
  have hs2 := hbl2.size
  have hB02 := (hbl2.block w.heap.size hs0).trans HBB0.out
  obtain ⟨b0, b1, b2, b3, b4⟩ := five_cells hB02
  have hc2 := (hbl2.cell (p := ⟨o, t, none⟩) hso).trans hc1
  have hs02 : w.heap.size < w2.heap.size := by omega
  have HBL2 := Lib.hid hbl2
  have HOWN2 := Lib.hid hown2
  clear hown2 hgrow2 hbl2 hB02 hc1 HOWN HSRC HONE
  have hk1I : (k : Int) + 1 ≤ (xs.length : Int) := by omega
  have hkc : (xs.length : Int) ≤ (c : Int) := by omega
  have hbl02 : Below w.heap.size w w2 := HB1.out.trans (HBL2.out.mono (by omega))
  have HSRC2 : Hid (((if c = k + 1 then some (⟨fg, 0, none⟩ : Addr) else some ⟨fg, k + 1, none⟩) = none ∧ xs.length - (k + 1) = 0 ∧ c - (k + 1) = 0 ∧ slots (xs.drop (k + 1)) = []) ∨ ∃ ad, (if c = k + 1 then some (⟨fg, 0, none⟩ : Addr) else some ⟨fg, k + 1, none⟩) = some ad ∧ (slots (xs.drop (k + 1))).length = (xs.length - (k + 1)) * 1 ∧ ∀ j u, (slots (xs.drop (k + 1)))[j]? = some u → w2.cell? (ad.add j) = some u) := Lib.hid (.inr (by
    by_cases e : c = k + 1
    · refine ⟨_, if_pos e, by simp [slots], fun j u hu => ?_⟩
      rw [List.getElem?_eq_none (by simp [slots]; omega)] at hu
      cases hu
    · refine ⟨_, if_neg e, by simp [slots], fun j u hu => ?_⟩
      have hj : j < xs.length - (k + 1) := by
        rcases Nat.lt_or_ge j (xs.length - (k + 1)) with h | h
        · exact h
        · rw [List.getElem?_eq_none (by simp [slots]; omega)] at hu; cases hu
      rw [show (⟨fg, k + 1, none⟩ : Addr).add j = ⟨fg, k + 1 + j, none⟩ by simp [Addr.add_lit], hbl02.cell (p := ⟨fg, k + 1 + j, none⟩) hfg, HC'.out (k + 1 + j) (by omega)]
      simp only [slots, List.getElem?_map, List.getElem?_drop] at hu
      rw [List.getElem?_eq_getElem (by omega)] at hu
      simpa using hu))
  have HONE2 : Hid (∀ u ∈ slots (xs.drop (k + 1)), u.oneCell' = true) := Lib.hid (by
    intro u hu
    simp only [slots, List.mem_map] at hu
    obtain ⟨_, _, rfl⟩ := hu
    rfl)
  have HB02 := Lib.hid hbl02
  have hsb : w1.heap.size ≤ w2.heap.size := hs2
  obtain ⟨A2, hA2⟩ : ∃ A2, (if c = k + 1 then some (⟨fg, 0, none⟩ : Addr) else some ⟨fg, k + 1, none⟩) = A2 := ⟨_, rfl⟩
  rw [hA2] at HSRC2
  clear hbl02
  go_wp2_with (at_builtin; refine wpList_append_src rfl (.tmp 31) (.tmp 39) 26 rfl w1.heap.size 21 (.int .i32 0) 1 4 (by kernel_rfl) (by kernel_rfl) rfl (by decide) v2 k _ rfl HOWN2.out A2 (xs.length - (k + 1)) (c - (k + 1)) (slots (xs.drop (k + 1))) rfl HSRC2.out HONE2.out (by omega) (by omega) hsb ?_)
  intro v3 w3 hown3 hgrow3
  clear hA2
  have hbl3 : Below w1.heap.size w1 w3 := below_grown HBL2.out HOWN2.out hgrow3 hsb
  have hs3 := hbl3.size
  have hB03 := (hbl3.block w.heap.size hs0).trans HBB0.out
  have hB13 := (hbl3.block (w.heap.size + 1) hs1).trans HBB1.out
  have hys : (xs.take k ++ xs.drop (k + 1)).length = k + (xs.length - (k + 1)) := by simp; omega
  have hsl : slots (xs.take k) ++ slots (xs.drop (k + 1)) = slots (xs.take k ++ xs.drop (k + 1)) := by simp [slots]
  obtain ⟨F3, c3, Kx, rfl, hx3, hKx⟩ := own_freedAt (xs := xs.take k ++ xs.drop (k + 1)) (B := w1.heap.size) (w := w3) (v := v3) (by rw [hys, ← hsl]; exact hown3)
  have hbl03 : Below w.heap.size w w3 := HB1.out.trans (hbl3.mono (by omega))
  have HW3 := Lib.hid (HWT.out w3 hbl03 F3 _ c3 Kx hx3 (fun y hy => (hKx y hy).2))
  have HKX := Lib.hid hKx
  have HBL03 := Lib.hid hbl03
  have HBB13 := Lib.hid hB13
  have hs13 : w.heap.size + 1 < w3.heap.size := by omega
  clear b0 b1 b2 b3 b4 hc2
  obtain ⟨b0, b1, b2, b3, b4⟩ := five_cells hB03
  obtain ⟨ys, hye⟩ : ∃ ys, xs.take k ++ xs.drop (k + 1) = ys := ⟨_, rfl⟩
  rw [hye] at HW3 ⊢
  have HYE := Lib.hid hye
  clear hown3 hgrow3 hbl3 hB03 hB13 hx3 hKx hbl03 hys hsl HSRC2 HONE2 HBL2 HOWN2 HB02 HWT hye
  go_wp2_with fail
  refine HW3.out.mono ?_
  rintro e w4 ⟨v4, K4, rfl, hb4, hr4, hk4⟩
  have HR4 := Lib.hid hr4
  obtain ⟨Fo4, fc4, nb4, nc4, o4, oc4, rfl, _⟩ := hr4
  have hB14 := (hb4.block (w.heap.size + 1) hs13).trans HBB13.out
  obtain ⟨x0, x1, x2, x3, x4⟩ := five_cells hB14
  obtain ⟨z0, z1, z2, z3, z4⟩ := five_free hB14
  have H5 := Lib.hid (fiveR_set hB14 (.int .i64 st.n) (.int .i64 st.used) (.slice Fo4 st.freed.length fc4) (.slice (some ⟨nb4, 0, none⟩) (st.used + 1) nc4) (.slice (some ⟨o4, 0, none⟩) n oc4))
  have HB4 := Lib.hid (HBL03.out.trans (hb4.mono (by omega)))
  have HK4 := Lib.hid hk4
  have HB4' := Lib.hid hb4
  clear hb4 hk4 hB14 b0 b1 b2 b3 b4
  go_wp2
  have h5 := H5.out
  generalize (((((w4.setCell ⟨w.heap.size + 1, 0, none⟩ (.int .i64 st.n)).setCell ⟨w.heap.size + 1, 1, none⟩ (.int .i64 st.used)).setCell ⟨w.heap.size + 1, 2, none⟩ (.slice Fo4 st.freed.length fc4)).setCell ⟨w.heap.size + 1, 3, none⟩ (.slice (some ⟨nb4, 0, none⟩) (st.used + 1) nc4)).setCell ⟨w.heap.size + 1, 4, none⟩ (.slice (some ⟨o4, 0, none⟩) n oc4)) = W at h5 ⊢
  clear x0 x1 x2 x3 x4 z0 z1 z2 z3 z4
  obtain ⟨y0, y1, y2, y3, y4⟩ := five_cells h5.1
  have hW4 := h5.2.size
  have hb4s := HB4'.out.size
  have hbW : Below w.heap.size w W := HB4.out.trans (h5.2.below (by simp) (by omega))
  have hK4 : ∀ y ∈ K4, y ∈ K ∨ w1.heap.size ≤ y := fun y hy => by
    rcases HK4.out y hy with g | g | g
    · exact .inl g
    · exact .inr (HKX.out y g).1
    · right; omega
  refine bodyPost_ret (v := .tuple #[refLs st.n st.used Fo4 st.freed.length fc4 nb4 (st.used + 1) nc4 (some ⟨o4, 0, none⟩) n oc4, .bool true]) (by simp [results, Try.results36, go_sem, y0, y1, y2, y3, y4]) rfl ⟨_, K4, rfl, hbW, ?_, fun y hy => (hK4 y hy).imp id (fun g => by omega)⟩
  rw [HYE.out]
  refine HR4.out.kept (fun y hy => h5.2.block y (HR4.out.old y hy) ?_) (fun y hy => Nat.lt_of_lt_of_le (HR4.out.old y hy) hW4)
  simp only [List.mem_singleton]
  rintro rfl
  rcases hK4 _ hy with g | g
  · have := HH0.out _ g; omega
  · omega
theorem rlrem_walk (h : RefL w v n l st K) (g : Gd n l) (i : Int) :
    Calls Try.prog 36 #[v, .int .i32 i] w (RlNext w K n (remL n l i) st (fun v' => .tuple #[v', .bool (decide (0 ≤ tagI n l i))])) := by
  rcases g.cases i with ⟨t, k, hk, ht, rfl, e⟩ | ⟨_, e⟩
  · have hh := rlrem_in h g t k ht hk
    unfold remL
    rw [e, if_pos (by omega), decide_eq_true (by omega)]
    have e1 : ((t : Int)).toNat = t := by omega
    have e2 : (((l t)[k] : Nat) : Int).toNat = (l t)[k] := by omega
    rw [e1, e2]
    exact hh
  · have hh := rlrem_out h g i e
    unfold remL
    rw [e, if_neg (by decide), decide_eq_false (by decide)]
    exact hh
end
end Go.Proofs.Ytlmcodmglcmmoaa
