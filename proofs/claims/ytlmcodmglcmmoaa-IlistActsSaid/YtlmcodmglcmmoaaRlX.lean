/- The document's own lists: Push to the back, and Push. -/
import Derived.Test.YtlmcodmglcmmoaaRlV
namespace Go.Proofs.Ytlmcodmglcmmoaa
open Go Go.RowKit Go.Deep

theorem one_src {w : World} {g : Nat} {u : Value} {t : TypeId} (h : w.heap[g]? = some (.cells #[u] t (0, 0))) : (some (⟨g, 0, none⟩ : Addr) = none ∧ 1 = 0 ∧ 1 = 0 ∧ [u] = []) ∨ ∃ ad, some (⟨g, 0, none⟩ : Addr) = some ad ∧ [u].length = 1 * 1 ∧ ∀ j x, [u][j]? = some x → w.cell? (ad.add j) = some x :=
  .inr ⟨_, rfl, rfl, fun j x hx => by
    cases j with
    | zero =>
      simp only [List.getElem?_cons_zero, Option.some.injEq] at hx
      subst hx
      have := (head_row h).cell (i := 0) (by simp)
      simpa [Addr.add] using this
    | succ j => simp at hx⟩

section
variable {w : World} {v : Value} {n : Nat} {l : Nat → List Nat} {st : St} {K : List Nat}
set_option maxHeartbeats 1000000 in
theorem rlpush_back (h : RefL w v n l st K) (g : Gd n l) (ho : st.Ok) (hn : st.n ≤ 1000000) (t i : Nat) (ht : t < n) (hi : st.is i = true) (hi32 : i ≤ 1000000) (hno : tagI n l i = -1) :
    Calls Try.prog 35 #[v, .int .i64 t, .int .i32 i, .bool false] w (RlNext w K n (upd l t (l t ++ [i])) st (fun v' => .tuple #[v', .bool true])) := by
  have HRL := Lib.hid h
  have htI : (t : Int) < (n : Int) := by omega
  have h8 := g.n8
  have htg := fun w' hb => rltag_walk (h.below (w' := w') hb) g i
  rw [hno] at htg
  have HTG := Lib.hid htg
  have hlen := g.len t ht
  obtain ⟨Fo, fc, nb, nc, o, oc, rfl, hoc, href, hrows⟩ := h
  have his := fun w' hb => ris_walk (href.below (w' := w') hb) ho hn i (by omega)
  rw [hi] at his
  have HIS := Lib.hid his
  have hoo : o < w.heap.size := href.1 o hrows.kin
  have HH0 := Lib.hid href.1
  have HWT := Lib.hid (fun w' (hb : Below w.heap.size w w') F xs c Kx (hx : FreedAt w' F xs c Kx) (hKx : ∀ k ∈ Kx, k < w'.heap.size) => rlwith_walk (HRL.out.below hb) h8 t ht F xs c hx hKx)
  obtain ⟨F, c, hc, hf⟩ := hrows.row t ht
  have HF := Lib.hid hf
  clear his href hi ho g htg hno hrows hf
  obtain ⟨xs, hxs⟩ : ∃ xs, l t = xs := ⟨_, rfl⟩
  rw [hxs] at hc HF hlen ⊢
  clear hxs
  go_enter Try.func35, Try.ntmps35
  go_wp2_with fail
  refine (HIS.out _ (((Below.refl _ _).alloc (Nat.le_refl _) _).alloc (by simp) _)).mono ?_
  rintro e w0 ⟨rfl, hb⟩
  have hbb := hb
  obtain ⟨hb0, hs0, hB00, _⟩ := two_blocks hb
  obtain ⟨c0, c1, c2, c3, c4⟩ := five_cells hB00
  have HB00 := Lib.hid hb0
  have HBB := Lib.hid hbb
  clear hb hb0 hB00 hbb
  go_wp2_with fail
  refine (HTG.out _ HB00.out).mono ?_
  rintro e w1 ⟨rfl, hb⟩
  obtain ⟨hb1, hs1, hB0, hB1⟩ := two_blocks (HBB.out.trans (hb.mono HBB.out.size))
  clear hb c0 c1 c2 c3 c4 HIS HTG
  obtain ⟨b0, b1, b2, b3, b4⟩ := five_cells hB0
  have hc1 := (hb1.cell (p := ⟨o, t, none⟩) hoo).trans hc
  have HB1 := Lib.hid hb1
  have HB0 := Lib.hid hB0
  have HBB1 := Lib.hid hB1
  have hs10 : w.heap.size < w1.heap.size := by omega
  have hs1o : o < w1.heap.size := by omega
  have HSS : Hid (∀ w', Below w1.heap.size w1 w' → w'.cell? ⟨w.heap.size, 0, none⟩ = some (.int .i64 st.n) ∧ w'.cell? ⟨w.heap.size, 1, none⟩ = some (.int .i64 st.used) ∧ w'.cell? ⟨w.heap.size, 2, none⟩ = some (.slice Fo st.freed.length fc) ∧ w'.cell? ⟨w.heap.size, 3, none⟩ = some (.slice (some ⟨nb, 0, none⟩) (st.used + 1) nc) ∧ w'.cell? ⟨w.heap.size, 4, none⟩ = some (.slice (some ⟨o, 0, none⟩) n oc) ∧ w'.cell? ⟨o, t, none⟩ = some (.slice F xs.length c)) := Lib.hid (fun w' hb => by
    obtain ⟨q0, q1, q2, q3, q4⟩ := five_cells ((hb.block w.heap.size hs10).trans HB0.out)
    exact ⟨q0, q1, q2, q3, q4, (hb.cell (p := ⟨o, t, none⟩) hs1o).trans hc1⟩)
  clear hb1 hB0 hB1 hc
  have HSRCX := Lib.hid (fun X (hX : Below w1.heap.size w1 X) => (HF.out.later HH0.out (HB1.out.trans (hX.mono (by omega)))).src)
  have hlit0 := World.ownsRow_lit (base := w1.heap.size) (e := 21) (size := 1) w1 #[] 0 (Nat.le_refl _) (by unfold maxLen; omega) rfl
  have hlitC := World.ownsRow_lit (base := w1.heap.size) (e := 21) (size := 1) (w1.alloc (.cells #[.int .i32 i] 21)) #[] 0 (by simp) (by unfold maxLen; omega) rfl
  rw [World.size_alloc] at hlitC
  have HOA := Lib.hid hlit0.drew
  have HOB := Lib.hid ((hlit0.alloc (.cells #[.int .i32 i] 21)).drew)
  have HOC := Lib.hid hlitC.drew
  have hXA : Below w1.heap.size w1 (w1.alloc (.cells #[] 21)).drew := ((Below.refl _ _).alloc (Nat.le_refl _) _).drew
  have hXB : Below w1.heap.size w1 ((w1.alloc (.cells #[] 21)).alloc (.cells #[.int .i32 i] 21)).drew := (((Below.refl _ _).alloc (Nat.le_refl _) _).alloc (by simp) _).drew
  have hXC : Below w1.heap.size w1 ((w1.alloc (.cells #[.int .i32 i] 21)).alloc (.cells #[] 21)).drew := (((Below.refl _ _).alloc (Nat.le_refl _) _).alloc (by simp) _).drew
  have HXA := Lib.hid hXA
  have HXB := Lib.hid hXB
  have HXC := Lib.hid hXC
  have hsA := hXA.size
  have hsB := hXB.size
  have hsC := hXC.size
  have HEB : Hid (((w1.alloc (.cells #[] 21)).alloc (.cells #[.int .i32 i] 21)).drew.heap[w1.heap.size + 1]? = some (.cells #[.int .i32 i] 21 (0, 0))) := Lib.hid (by
    have := heap_alloc_new (w1.alloc (.cells #[] 21)) (.cells #[.int .i32 i] 21)
    rwa [World.size_alloc] at this)
  have HEC : Hid (((w1.alloc (.cells #[.int .i32 i] 21)).alloc (.cells #[] 21)).drew.heap[w1.heap.size]? = some (.cells #[.int .i32 i] 21 (0, 0))) := Lib.hid ((Below.heap_alloc _ _ _ (by simp)).trans (heap_alloc_new w1 _))
  have HZB : Hid (w1.heap.size + 1 < ((w1.alloc (.cells #[] 21)).alloc (.cells #[.int .i32 i] 21)).drew.heap.size) := Lib.hid (by show _ < ((w1.alloc _).alloc _).heap.size; simp)
  have HZC : Hid (w1.heap.size < ((w1.alloc (.cells #[.int .i32 i] 21)).alloc (.cells #[] 21)).drew.heap.size) := Lib.hid (by show _ < ((w1.alloc _).alloc _).heap.size; simp; omega)
  clear hXA hXB hXC hlit0 hlitC
  have HONE : Hid (∀ u ∈ xs.map (fun x => Value.int .i32 (x : Nat)), u.oneCell' = true) := Lib.hid (by
    intro u hu
    simp only [List.mem_map] at hu
    obtain ⟨_, _, rfl⟩ := hu
    rfl)
  have HONE1 : Hid (∀ u ∈ [Value.int .i32 (i : Nat)], u.oneCell' = true) := Lib.hid (by simp [Value.oneCell'])
  obtain ⟨ys, hys⟩ : ∃ ys, xs ++ [i] = ys := ⟨_, rfl⟩
  have HYS := Lib.hid hys
  have hyl : 0 + xs.length + 1 = ys.length := by rw [← hys]; simp
  have HYL := Lib.hid hyl
  have HSL : Hid (([] ++ xs.map (fun x => Value.int .i32 (x : Nat))) ++ [Value.int .i32 (i : Nat)] = slots ys) := Lib.hid (by rw [← hys]; simp [slots])
  have hs11 : w.heap.size + 1 < w1.heap.size := hs1
  clear hys hyl
  go_wp2_with fail
  go_region_held3 (fun w' => w'.cell? ⟨w.heap.size, 0, none⟩ = some (.int .i64 st.n) ∧ w'.cell? ⟨w.heap.size, 1, none⟩ = some (.int .i64 st.used) ∧ w'.cell? ⟨w.heap.size, 2, none⟩ = some (.slice Fo st.freed.length fc) ∧ w'.cell? ⟨w.heap.size, 3, none⟩ = some (.slice (some ⟨nb, 0, none⟩) (st.used + 1) nc) ∧ w'.cell? ⟨w.heap.size, 4, none⟩ = some (.slice (some ⟨o, 0, none⟩) n oc) ∧ w'.cell? ⟨o, t, none⟩ = some (.slice F xs.length c))
    (first | with_reducible exact kk1 | with_reducible exact kk2 | with_reducible exact kk3 | with_reducible exact KK3 _ (fiveR_set hB13 _ _ _ _ _).2 | go_keep)
    (first
      | (refine step_append_src (by rfl) (.tmp 47) (.tmp 52) 26 (by rfl) w1.heap.size 21 (.int .i32 0) 1 4 (by kernel_rfl) (by kernel_rfl) rfl (by decide) _ 0 _ (by rfl) HOA.out F xs.length c (xs.map (fun x => Value.int .i32 (x : Nat))) (by rfl) (HSRCX.out _ HXA.out) HONE.out (by omega) (by omega) hsA ?_; intro v2 w2 hown2 hgrow2; have hbl2 := below_grown HXA.out HOA.out hgrow2 hsA; have kk1 := HSS.out w2 hbl2; have hs2 := hbl2.size; have HO2 := Lib.hid (hown2.alloc (.cells #[.int .i32 i] 21)); have HX2 := Lib.hid (hbl2.alloc hs2 (.cells #[.int .i32 i] 21)); have hsX2 := (hbl2.alloc hs2 (.cells #[.int .i32 i] 21)).size; have HE2 := Lib.hid (heap_alloc_new w2 (.cells #[.int .i32 i] 21)); have HSRC2 := Lib.hid (one_src HE2.out); clear hown2 hgrow2 hbl2)
      | (refine step_append_src (by rfl) (.tmp 47) (.tmp 52) 26 (by rfl) w1.heap.size 21 (.int .i32 0) 1 4 (by kernel_rfl) (by kernel_rfl) rfl (by decide) _ 0 _ (by rfl) HOB.out F xs.length c (xs.map (fun x => Value.int .i32 (x : Nat))) (by rfl) (HSRCX.out _ HXB.out) HONE.out (by omega) (by omega) hsB ?_; intro v2 w2 hown2 hgrow2; have hbl2 := below_grown HXB.out HOB.out hgrow2 hsB; have kk1 := HSS.out w2 hbl2; have hs2 := hbl2.size; have HO2 := Lib.hid hown2; have HX2 := Lib.hid hbl2; have hsX2 := hs2; have HE2 := Lib.hid ((hgrow2.block (w1.heap.size + 1) HZB.out (by simp [Value.ownBlock])).trans HEB.out); have HSRC2 := Lib.hid (one_src HE2.out); clear hown2 hgrow2 hbl2)
      | (refine step_append_src (by rfl) (.tmp 47) (.tmp 52) 26 (by rfl) w1.heap.size 21 (.int .i32 0) 1 4 (by kernel_rfl) (by kernel_rfl) rfl (by decide) _ 0 _ (by rfl) HOC.out F xs.length c (xs.map (fun x => Value.int .i32 (x : Nat))) (by rfl) (HSRCX.out _ HXC.out) HONE.out (by omega) (by omega) hsC ?_; intro v2 w2 hown2 hgrow2; have hbl2 := below_grown HXC.out HOC.out hgrow2 hsC; have kk1 := HSS.out w2 hbl2; have hs2 := hbl2.size; have HO2 := Lib.hid hown2; have HX2 := Lib.hid hbl2; have hsX2 := hs2; have HE2 := Lib.hid ((hgrow2.block w1.heap.size HZC.out (by simp [Value.ownBlock])).trans HEC.out); have HSRC2 := Lib.hid (one_src HE2.out); clear hown2 hgrow2 hbl2)
      | (refine step_append_src (by rfl) (.tmp 53) (.tmp 55) 26 (by rfl) w1.heap.size 21 (.int .i32 0) 1 4 (by kernel_rfl) (by kernel_rfl) rfl (by decide) _ _ _ (by rfl) HO2.out _ 1 1 [.int .i32 i] (by rfl) HSRC2.out HONE1.out (by omega) (by omega) hsX2 ?_; intro v3 w3 hown3 hgrow3; have hbl3 := below_grown HX2.out HO2.out hgrow3 hsX2; obtain ⟨F2, c2, Kx, rfl, hx2, hKx⟩ := own_freedAt (xs := ys) (B := w1.heap.size) (w := w3) (v := v3) (by rw [← HYL.out, ← HSL.out]; exact hown3); have kk2 := HSS.out w3 hbl3; have hbl03 : Below w.heap.size w w3 := HB1.out.trans (hbl3.mono (by omega)); have HW2 := Lib.hid (HWT.out w3 hbl03 F2 ys c2 Kx hx2 (fun y hy => (hKx y hy).2)); have HKX := Lib.hid hKx; have HBL2 := Lib.hid hbl3; clear hown3 hgrow3 hx2 hKx hbl3 hbl03)
      | (go_at_call 53; refine HW2.out.mono ?_; rintro e w4 ⟨v3, K3, rfl, hb3, hr3, hk3⟩; have HR3 := Lib.hid hr3; obtain ⟨Fo3, fc3, nb3, nc3, o3, oc3, rfl, _⟩ := hr3; have hbl3 := HBL2.out.trans (hb3.mono HBL2.out.size); have kk3 := HSS.out w4 hbl3; have hB13 := (hbl3.block (w.heap.size + 1) hs11).trans HBB1.out; have KK3 := fun (W : World) (ho : Only [w.heap.size + 1] w4 W) => (by
            have hB03 := (hbl3.block w.heap.size hs10).trans HB0.out
            obtain ⟨q0, q1, q2, q3, q4⟩ := five_cells ((ho.block w.heap.size (by have := hbl3.size; omega) (by simp)).trans hB03)
            refine And.intro q0 (And.intro q1 (And.intro q2 (And.intro q3 (And.intro q4 ?_))))
            rw [World.cell?_of_block (w := w4) (a := ⟨o, t, none⟩) (ho.block o (by have := hbl3.size; omega) (by simp; omega))]
            exact kk3.2.2.2.2.2 : W.cell? ⟨w.heap.size, 0, none⟩ = some (.int .i64 st.n) ∧ W.cell? ⟨w.heap.size, 1, none⟩ = some (.int .i64 st.used) ∧ W.cell? ⟨w.heap.size, 2, none⟩ = some (.slice Fo st.freed.length fc) ∧ W.cell? ⟨w.heap.size, 3, none⟩ = some (.slice (some ⟨nb, 0, none⟩) (st.used + 1) nc) ∧ W.cell? ⟨w.heap.size, 4, none⟩ = some (.slice (some ⟨o, 0, none⟩) n oc) ∧ W.cell? ⟨o, t, none⟩ = some (.slice F xs.length c)); obtain ⟨xx0, xx1, xx2, xx3, xx4⟩ := five_cells hB13; obtain ⟨zz0, zz1, zz2, zz3, zz4⟩ := five_free hB13))
  all_goals
    have hfs := fiveR_set hB13 (.int .i64 st.n) (.int .i64 st.used) (.slice Fo3 st.freed.length fc3) (.slice (some ⟨nb3, 0, none⟩) (st.used + 1) nc3) (.slice (some ⟨o3, 0, none⟩) n oc3)
    have HK3 := Lib.hid hk3
    have hb23 := hb3.size
    have HBL3 := Lib.hid hbl3
    clear hb3 hk3 hbl3 kk1 kk2 kk3 KK3 hB13 xx0 xx1 xx2 xx3 xx4 zz0 zz1 zz2 zz3 zz4 HSS
    generalize (((((w4.setCell ⟨w.heap.size + 1, 0, none⟩ (.int .i64 st.n)).setCell ⟨w.heap.size + 1, 1, none⟩ (.int .i64 st.used)).setCell ⟨w.heap.size + 1, 2, none⟩ (.slice Fo3 st.freed.length fc3)).setCell ⟨w.heap.size + 1, 3, none⟩ (.slice (some ⟨nb3, 0, none⟩) (st.used + 1) nc3)).setCell ⟨w.heap.size + 1, 4, none⟩ (.slice (some ⟨o3, 0, none⟩) n oc3)) = W at *
    obtain ⟨y0, y1, y2, y3, y4⟩ := five_cells hfs.1
    have HFS := Lib.hid hfs
    clear hfs
    go_wp2_with fail
    have hb2s := HBL2.out.size
    have hW3 := HFS.out.2.size
    have hbW : Below w.heap.size w W := (HB1.out.trans (HBL3.out.mono (by omega))).trans (HFS.out.2.below (by simp) (by have := HB1.out.size; omega))
    have hK3 : ∀ y ∈ K3, y ∈ K ∨ w1.heap.size ≤ y := fun y hy => by
      rcases HK3.out y hy with g | g | g
      · exact .inl g
      · exact .inr (HKX.out y g).1
      · right; omega
    refine bodyPost_ret (v := .tuple #[refLs st.n st.used Fo3 st.freed.length fc3 nb3 (st.used + 1) nc3 (some ⟨o3, 0, none⟩) n oc3, .bool true]) (by simp [results, Try.results35, go_sem, y0, y1, y2, y3, y4]) rfl ⟨_, K3, rfl, hbW, ?_, fun y hy => (hK3 y hy).imp id (fun g => by omega)⟩
    rw [HYS.out]
    refine HR3.out.kept (fun y hy => HFS.out.2.block y (HR3.out.old y hy) ?_) (fun y hy => Nat.lt_of_lt_of_le (HR3.out.old y hy) hW3)
    simp only [List.mem_singleton]
    rintro rfl
    rcases hK3 _ hy with g | g
    · have := HH0.out _ g; omega
    · omega

theorem rlpush_walk (h : RefL w v n l st K) (g : Gd n l) (ho : st.Ok) (hn : st.n ≤ 1000000) (tag i : Int) (h32 : i ≤ 2147483647) (fr : Bool) :
    Calls Try.prog 35 #[v, .int .i64 tag, .int .i32 i, .bool fr] w (RlNext w K n (pushL fr n l st tag i) st (fun v' => .tuple #[v', .bool (pushOk n l st tag i)])) := by
  unfold pushL pushOk
  cases hh : hasT n tag
  · simp only [Bool.false_and, Bool.false_eq_true, if_false]
    exact rlpush_tag h tag i fr hh
  · cases hi : st.is i
    · simp only [Bool.and_false, Bool.false_and, Bool.false_eq_true, if_false]
      exact rlpush_is h ho hn tag i h32 fr hh hi
    · by_cases hq : tagI n l i < 0
      · simp only [Bool.and_self, hq, decide_true, if_true]
        have hm : tagI n l i = -1 := by
          rcases g.cases i with ⟨t, _, _, _, _, e⟩ | ⟨_, e⟩
          · omega
          · exact e
        obtain ⟨t, rfl, ht⟩ := hasT_nat hh
        obtain ⟨k, rfl, k1, k2, k3⟩ := St.is_nat ho hi
        have e1 : ((t : Int)).toNat = t := by omega
        have e2 : ((k : Int)).toNat = k := by omega
        rw [e1, e2]
        cases fr
        · exact rlpush_back h g ho hn t k ht hi (by omega) hm
        · exact rlpush_front h g ho hn t k ht hi (by omega) hm
      · simp only [Bool.and_self, hq, decide_false, Bool.and_false, Bool.false_eq_true, if_false]
        exact rlpush_in h g ho hn tag i h32 fr hh hi (by omega)
end
end Go.Proofs.Ytlmcodmglcmmoaa
