/- The document's own lists: Push, where it is done. -/
import Derived.Test.YtlmcodmglcmmoaaRlU
namespace Go.Proofs.Ytlmcodmglcmmoaa
open Go Go.RowKit Go.Deep

section
variable {w : World} {v : Value} {n : Nat} {l : Nat → List Nat} {st : St} {K : List Nat}
set_option maxHeartbeats 1000000 in
theorem rlpush_front (h : RefL w v n l st K) (g : Gd n l) (ho : st.Ok) (hn : st.n ≤ 1000000) (t i : Nat) (ht : t < n) (hi : st.is i = true) (hi32 : i ≤ 1000000) (hno : tagI n l i = -1) :
    Calls Try.prog 35 #[v, .int .i64 t, .int .i32 i, .bool true] w (RlNext w K n (upd l t (i :: l t)) st (fun v' => .tuple #[v', .bool true])) := by
  have HRL := Lib.hid h
  have htI : (t : Int) < (n : Int) := by omega
  have h8 := g.n8
  have htg := fun w' hb => rltag_walk (h.below (w' := w') hb) g i
  rw [hno] at htg
  have HTG := Lib.hid htg
  have hlen := g.len t ht
  obtain ⟨Fo, fc, nb, nc, o, oc, rfl, hoc, href, hrows⟩ := h
  have his := fun w' hb => ris_walk (href.below (w' := w') hb) ho hn i (by omega)
  rw [hi] at his
  have HIS := Lib.hid his
  have hoo : o < w.heap.size := href.1 o hrows.kin
  have HH0 := Lib.hid href.1
  have HWT := Lib.hid (fun w' (hb : Below w.heap.size w w') F xs c Kx (hx : FreedAt w' F xs c Kx) (hKx : ∀ k ∈ Kx, k < w'.heap.size) => rlwith_walk (HRL.out.below hb) h8 t ht F xs c hx hKx)
  obtain ⟨F, c, hc, hf⟩ := hrows.row t ht
  have HF := Lib.hid hf
  clear his href hi ho g htg hno hrows hf
  obtain ⟨xs, hxs⟩ : ∃ xs, l t = xs := ⟨_, rfl⟩
  rw [hxs] at hc HF hlen ⊢
  clear hxs
  go_enter Try.func35, Try.ntmps35
  go_wp2_with fail
  refine (HIS.out _ (((Below.refl _ _).alloc (Nat.le_refl _) _).alloc (by simp) _)).mono ?_
  rintro e w0 ⟨rfl, hb⟩
  have hbb := hb
  obtain ⟨hb0, hs0, hB00, _⟩ := two_blocks hb
  obtain ⟨c0, c1, c2, c3, c4⟩ := five_cells hB00
  have HB00 := Lib.hid hb0
  have HBB := Lib.hid hbb
  clear hb hb0 hB00 hbb
  go_wp2_with fail
  refine (HTG.out _ HB00.out).mono ?_
  rintro e w1 ⟨rfl, hb⟩
  obtain ⟨hb1, hs1, hB0, hB1⟩ := two_blocks (HBB.out.trans (hb.mono HBB.out.size))
  clear hb c0 c1 c2 c3 c4 HIS HTG
  obtain ⟨b0, b1, b2, b3, b4⟩ := five_cells hB0
  have hc1 := (hb1.cell (p := ⟨o, t, none⟩) hoo).trans hc
  have HB1 := Lib.hid hb1
  have HB0 := Lib.hid hB0
  have HBB1 := Lib.hid hB1
  have hs10 : w.heap.size < w1.heap.size := by omega
  have hs1o : o < w1.heap.size := by omega
  have HSS : Hid (∀ w', Below w1.heap.size w1 w' → w'.cell? ⟨w.heap.size, 0, none⟩ = some (.int .i64 st.n) ∧ w'.cell? ⟨w.heap.size, 1, none⟩ = some (.int .i64 st.used) ∧ w'.cell? ⟨w.heap.size, 2, none⟩ = some (.slice Fo st.freed.length fc) ∧ w'.cell? ⟨w.heap.size, 3, none⟩ = some (.slice (some ⟨nb, 0, none⟩) (st.used + 1) nc) ∧ w'.cell? ⟨w.heap.size, 4, none⟩ = some (.slice (some ⟨o, 0, none⟩) n oc) ∧ w'.cell? ⟨o, t, none⟩ = some (.slice F xs.length c)) := Lib.hid (fun w' hb => by
    obtain ⟨q0, q1, q2, q3, q4⟩ := five_cells ((hb.block w.heap.size hs10).trans HB0.out)
    exact ⟨q0, q1, q2, q3, q4, (hb.cell (p := ⟨o, t, none⟩) hs1o).trans hc1⟩)
  clear hb1 hB0 hB1 hc
  have hX1 : Below w1.heap.size w1 (w1.alloc (.cells #[.int .i32 i] 21)).drew := ((Below.refl _ _).alloc (Nat.le_refl _) _).drew
  have HX1 := Lib.hid hX1
  have HSRC := Lib.hid (HF.out.later HH0.out (HB1.out.trans (hX1.mono (by omega)))).src
  have HOWN := Lib.hid ((World.ownsRow_lit (base := w1.heap.size) (e := 21) (size := 1) w1 #[.int .i32 i] 1 (Nat.le_refl _) (by unfold maxLen; omega) rfl).drew)
  have HONE : Hid (∀ u ∈ xs.map (fun x => Value.int .i32 (x : Nat)), u.oneCell' = true) := Lib.hid (by
    intro u hu
    simp only [List.mem_map] at hu
    obtain ⟨_, _, rfl⟩ := hu
    rfl)
  obtain ⟨ys, hys⟩ : ∃ ys, i :: xs = ys := ⟨_, rfl⟩
  have HYS := Lib.hid hys
  have hyl : 1 + xs.length = ys.length := by rw [← hys]; simp; omega
  have HYL := Lib.hid hyl
  have HSL : Hid ([Value.int .i32 (i : Nat)] ++ xs.map (fun x => Value.int .i32 (x : Nat)) = slots ys) := Lib.hid (by rw [← hys]; rfl)
  have hs11 : w.heap.size + 1 < w1.heap.size := hs1
  have hsX : w1.heap.size ≤ (w1.alloc (.cells #[.int .i32 i] 21)).drew.heap.size := hX1.size
  clear hX1 hys hyl
  go_wp2_with fail
  go_region_held3 (fun w' => w'.cell? ⟨w.heap.size, 0, none⟩ = some (.int .i64 st.n) ∧ w'.cell? ⟨w.heap.size, 1, none⟩ = some (.int .i64 st.used) ∧ w'.cell? ⟨w.heap.size, 2, none⟩ = some (.slice Fo st.freed.length fc) ∧ w'.cell? ⟨w.heap.size, 3, none⟩ = some (.slice (some ⟨nb, 0, none⟩) (st.used + 1) nc) ∧ w'.cell? ⟨w.heap.size, 4, none⟩ = some (.slice (some ⟨o, 0, none⟩) n oc) ∧ w'.cell? ⟨o, t, none⟩ = some (.slice F xs.length c))
    (first | with_reducible exact kk1 | with_reducible exact kk2 | with_reducible exact KK3 _ (fiveR_set hB13 _ _ _ _ _).2 | go_keep)
    (first
      | (refine step_append_src (by rfl) (.tmp 37) (.tmp 42) 26 (by rfl) w1.heap.size 21 (.int .i32 0) 1 4 (by kernel_rfl) (by kernel_rfl) rfl (by decide) _ 1 _ (by rfl) HOWN.out F xs.length c (xs.map (fun x => Value.int .i32 (x : Nat))) (by rfl) HSRC.out HONE.out (by omega) (by omega) hsX ?_; intro v2 w2 hown2 hgrow2; have hbl2 := below_grown HX1.out HOWN.out hgrow2 hsX; obtain ⟨F2, c2, Kx, rfl, hx2, hKx⟩ := own_freedAt (xs := ys) (B := w1.heap.size) (w := w2) (v := v2) (by rw [← HYL.out, ← HSL.out]; exact hown2); have kk1 := HSS.out w2 hbl2; have hbl02 : Below w.heap.size w w2 := HB1.out.trans (hbl2.mono (by omega)); have HW2 := Lib.hid (HWT.out w2 hbl02 F2 ys c2 Kx hx2 (fun y hy => (hKx y hy).2)); have HKX := Lib.hid hKx; have HBL2 := Lib.hid hbl2; clear hown2 hgrow2 hx2 hKx hbl2 hbl02)
      | (go_at_call 53; refine HW2.out.mono ?_; rintro e w3 ⟨v3, K3, rfl, hb3, hr3, hk3⟩; have HR3 := Lib.hid hr3; obtain ⟨Fo3, fc3, nb3, nc3, o3, oc3, rfl, _⟩ := hr3; have hbl3 := HBL2.out.trans (hb3.mono HBL2.out.size); have kk2 := HSS.out w3 hbl3; have hB13 := (hbl3.block (w.heap.size + 1) hs11).trans HBB1.out; have KK3 := fun (W : World) (ho : Only [w.heap.size + 1] w3 W) => (by
            have hB03 := (hbl3.block w.heap.size hs10).trans HB0.out
            obtain ⟨q0, q1, q2, q3, q4⟩ := five_cells ((ho.block w.heap.size (by have := hbl3.size; omega) (by simp)).trans hB03)
            refine And.intro q0 (And.intro q1 (And.intro q2 (And.intro q3 (And.intro q4 ?_))))
            rw [World.cell?_of_block (w := w3) (a := ⟨o, t, none⟩) (ho.block o (by have := hbl3.size; omega) (by simp; omega))]
            exact kk2.2.2.2.2.2 : W.cell? ⟨w.heap.size, 0, none⟩ = some (.int .i64 st.n) ∧ W.cell? ⟨w.heap.size, 1, none⟩ = some (.int .i64 st.used) ∧ W.cell? ⟨w.heap.size, 2, none⟩ = some (.slice Fo st.freed.length fc) ∧ W.cell? ⟨w.heap.size, 3, none⟩ = some (.slice (some ⟨nb, 0, none⟩) (st.used + 1) nc) ∧ W.cell? ⟨w.heap.size, 4, none⟩ = some (.slice (some ⟨o, 0, none⟩) n oc) ∧ W.cell? ⟨o, t, none⟩ = some (.slice F xs.length c)); obtain ⟨xx0, xx1, xx2, xx3, xx4⟩ := five_cells hB13; obtain ⟨zz0, zz1, zz2, zz3, zz4⟩ := five_free hB13))
  have hfs := fiveR_set hB13 (.int .i64 st.n) (.int .i64 st.used) (.slice Fo3 st.freed.length fc3) (.slice (some ⟨nb3, 0, none⟩) (st.used + 1) nc3) (.slice (some ⟨o3, 0, none⟩) n oc3)
  have HK3 := Lib.hid hk3
  have hb23 := hb3.size
  have HBL3 := Lib.hid hbl3
  clear hb3 hk3 hbl3 kk1 kk2 KK3 hB13 xx0 xx1 xx2 xx3 xx4 zz0 zz1 zz2 zz3 zz4 HSS
  generalize (((((w3.setCell ⟨w.heap.size + 1, 0, none⟩ (.int .i64 st.n)).setCell ⟨w.heap.size + 1, 1, none⟩ (.int .i64 st.used)).setCell ⟨w.heap.size + 1, 2, none⟩ (.slice Fo3 st.freed.length fc3)).setCell ⟨w.heap.size + 1, 3, none⟩ (.slice (some ⟨nb3, 0, none⟩) (st.used + 1) nc3)).setCell ⟨w.heap.size + 1, 4, none⟩ (.slice (some ⟨o3, 0, none⟩) n oc3)) = W at *
  obtain ⟨y0, y1, y2, y3, y4⟩ := five_cells hfs.1
  have HFS := Lib.hid hfs
  clear hfs
  go_wp2_with fail
  have hb2s := HBL2.out.size
  have hW3 := HFS.out.2.size
  have hbW : Below w.heap.size w W := (HB1.out.trans (HBL3.out.mono (by omega))).trans (HFS.out.2.below (by simp) (by have := HB1.out.size; omega))
  have hK3 : ∀ y ∈ K3, y ∈ K ∨ w1.heap.size ≤ y := fun y hy => by
    rcases HK3.out y hy with g | g | g
    · exact .inl g
    · exact .inr (HKX.out y g).1
    · right; omega
  refine bodyPost_ret (v := .tuple #[refLs st.n st.used Fo3 st.freed.length fc3 nb3 (st.used + 1) nc3 (some ⟨o3, 0, none⟩) n oc3, .bool true]) (by simp [results, Try.results35, go_sem, y0, y1, y2, y3, y4]) rfl ⟨_, K3, rfl, hbW, ?_, fun y hy => (hK3 y hy).imp id (fun g => by omega)⟩
  rw [HYS.out]
  refine HR3.out.kept (fun y hy => HFS.out.2.block y (HR3.out.old y hy) ?_) (fun y hy => Nat.lt_of_lt_of_le (HR3.out.old y hy) hW3)
  simp only [List.mem_singleton]
  rintro rfl
  rcases hK3 _ hy with g | g
  · have := HH0.out _ g; omega
  · omega
end
end Go.Proofs.Ytlmcodmglcmmoaa
