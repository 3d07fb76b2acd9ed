/- The document's own lists: with. -/
import Derived.Test.YtlmcodmglcmmoaaRlP
namespace Go.Proofs.Ytlmcodmglcmmoaa
open Go Go.RowKit Go.Deep

def RlNext (w : World) (K : List Nat) (n : Nat) (l' : Nat → List Nat) (st : St) (f : Value → Value) (e : Ending) (w' : World) : Prop :=
  ∃ (v' : Value) (K' : List Nat), e = .returned (f v') ∧ Below w.heap.size w w' ∧ RefL w' v' n l' st K' ∧ ∀ k ∈ K', k ∈ K ∨ w.heap.size ≤ k

theorem with_set {w : World} {g B0 B1 t : Nat} {T : TypeId} {c0 c1 c2 c3 c4 : Value} (h1 : w.heap[B1]? = some (.cells #[c0, c1, c2, c3, c4] T (0, 0))) (n1 : g ≠ B0) (n2 : g ≠ B1) (n3 : B0 ≠ B1) (x y b0 b1 b2 b3 b4 : Value) :
    (((((((w.setCell ⟨g, t, none⟩ x).setCell ⟨B0, 4, none⟩ y).setCell ⟨B1, 0, none⟩ b0).setCell ⟨B1, 1, none⟩ b1).setCell ⟨B1, 2, none⟩ b2).setCell ⟨B1, 3, none⟩ b3).setCell ⟨B1, 4, none⟩ b4).heap[B1]? = some (.cells #[b0, b1, b2, b3, b4] T (0, 0)) ∧
    Only [g, B0, B1] w (((((((w.setCell ⟨g, t, none⟩ x).setCell ⟨B0, 4, none⟩ y).setCell ⟨B1, 0, none⟩ b0).setCell ⟨B1, 1, none⟩ b1).setCell ⟨B1, 2, none⟩ b2).setCell ⟨B1, 3, none⟩ b3).setCell ⟨B1, 4, none⟩ b4) ∧
    (((((((w.setCell ⟨g, t, none⟩ x).setCell ⟨B0, 4, none⟩ y).setCell ⟨B1, 0, none⟩ b0).setCell ⟨B1, 1, none⟩ b1).setCell ⟨B1, 2, none⟩ b2).setCell ⟨B1, 3, none⟩ b3).setCell ⟨B1, 4, none⟩ b4).heap[g]? = (w.setCell ⟨g, t, none⟩ x).heap[g]? := by
  have k1 : ((w.setCell ⟨g, t, none⟩ x).setCell ⟨B0, 4, none⟩ y).heap[B1]? = some (.cells #[c0, c1, c2, c3, c4] T (0, 0)) :=
    (Below.heap_setCell _ _ _ _ (by simpa using n3.symm)).trans ((Below.heap_setCell _ _ _ _ (by simpa using n2.symm)).trans h1)
  have ho1 : Only [g, B0, B1] w ((w.setCell ⟨g, t, none⟩ x).setCell ⟨B0, 4, none⟩ y) := ((Only.refl _ w).setCell (p := ⟨g, t, none⟩) (by simp) x).setCell (p := ⟨B0, 4, none⟩) (by simp) y
  obtain ⟨k2, k3⟩ := fiveR_set k1 b0 b1 b2 b3 b4
  refine ⟨k2, ho1.trans k3 (by simp), ?_⟩
  have hg : ∀ (W : World) (j : Nat) (u : Value), (W.setCell ⟨B1, j, none⟩ u).heap[g]? = W.heap[g]? := fun W j u => Below.heap_setCell _ _ _ _ (by simpa using n2)
  rw [hg, hg, hg, hg, hg, Below.heap_setCell _ _ _ _ (by simpa using n1)]

def rowVals (w : World) (o n : Nat) : List Value := (List.range n).map (fun t => (w.cell? ⟨o, t, none⟩).getD undef)
theorem rowVals_len (w : World) (o n : Nat) : (rowVals w o n).length = n := by simp [rowVals]
theorem RowsAt.vals {w : World} {o n : Nat} {l : Nat → List Nat} {K : List Nat} (h : RowsAt w o n l K) {t : Nat} (ht : t < n) : (rowVals w o n)[t]? = w.cell? ⟨o, t, none⟩ ∧ ∃ F c, (rowVals w o n)[t]? = some (.slice F (l t).length c) ∧ FreedAt w F (l t) c K := by
  obtain ⟨F, c, h1, h2⟩ := h.row t ht
  have e : (rowVals w o n)[t]? = w.cell? ⟨o, t, none⟩ := by
    unfold rowVals
    rw [List.getElem?_map, List.getElem?_range ht, h1]
    simp [h1]
  exact ⟨e, F, c, e.trans h1, h2⟩
theorem RowsAt.one {w : World} {o n : Nat} {l : Nat → List Nat} {K : List Nat} (h : RowsAt w o n l K) : ∀ u ∈ rowVals w o n, u.oneCell' = true := fun u hu => by
  obtain ⟨j, hj, rfl⟩ := List.getElem_of_mem hu
  rw [rowVals_len] at hj
  obtain ⟨_, F, c, e, _⟩ := h.vals hj
  rw [List.getElem?_eq_getElem (by rw [rowVals_len]; exact hj)] at e
  injection e with e
  rw [e]; rfl
theorem RowsAt.src {w w' : World} {o n oc : Nat} {l : Nat → List Nat} {K : List Nat} (h : RowsAt w o n l K) (ho : o < w.heap.size) (hb : Below w.heap.size w w') : (some (⟨o, 0, none⟩ : Addr) = none ∧ n = 0 ∧ oc = 0 ∧ rowVals w o n = []) ∨ ∃ ad, some (⟨o, 0, none⟩ : Addr) = some ad ∧ (rowVals w o n).length = n * 1 ∧ ∀ j u, (rowVals w o n)[j]? = some u → w'.cell? (ad.add j) = some u := by
  refine .inr ⟨_, rfl, by rw [rowVals_len, Nat.mul_one], fun j u hu => ?_⟩
  rcases Nat.lt_or_ge j n with hj | hj
  · have := (h.vals hj).1
    rw [hu] at this
    rw [show (⟨o, 0, none⟩ : Addr).add j = ⟨o, j, none⟩ by simp [Addr.add_lit], hb.cell (p := ⟨o, j, none⟩) ho]
    exact this.symm
  · rw [List.getElem?_eq_none (by rw [rowVals_len]; exact hj)] at hu; cases hu

theorem own_free {w : World} {B : Nat} {e : TypeId} {size n cap g : Nat} {xs : List Value} (h : w.ownsRow B e size (.slice (some ⟨g, 0, none⟩) n cap) n xs) (hn : 0 < n) : ∃ cur, w.heap[g]? = some (.cells cur e (0, 0)) ∧ n ≤ cap ∧ cur.size = cap * size ∧ cur.toList.take (n * size) = xs := by
  rcases h.2 with ⟨e, h0⟩ | ⟨g', cap', cur, e, _, hg, hle, _, hcs, ht⟩
  · omega
  · injection e with e1 _ e3
    injection e1 with e1
    injection e1 with e1
    subst e1 e3
    exact ⟨cur, hg, hle, hcs, ht⟩

set_option maxHeartbeats 400000 in
theorem rlwith_walk {w : World} {v : Value} {n : Nat} {l : Nat → List Nat} {st : St} {K Kx : List Nat} (h : RefL w v n l st K) (h8 : n ≤ 8) (t : Nat) (ht : t < n) (F : Option Addr) (xs : List Nat) (c : Nat) (hx : FreedAt w F xs c Kx) (hKx : ∀ k ∈ Kx, k < w.heap.size) :
    Calls Try.prog 53 #[v, .int .i64 t, .slice F xs.length c] w fun e w' => ∃ (v' : Value) (K' : List Nat), e = .returned v' ∧ Below w.heap.size w w' ∧ RefL w' v' n (upd l t xs) st K' ∧ ∀ k ∈ K', k ∈ K ∨ k ∈ Kx ∨ w.heap.size ≤ k := by
  obtain ⟨Fo, fc, nb, nc, o, oc, rfl, hoc, href, hrows⟩ := h
  have ho : o < w.heap.size := href.1 o hrows.kin
  have htI : (t : Int) < (n : Int) := by omega
  have HRF := Lib.hid href
  have HRW := Lib.hid hrows
  have HX := Lib.hid hx
  have HKX := Lib.hid hKx
  obtain ⟨O0, hO0⟩ : ∃ O0, Obj.cells #[.int .i64 st.n, .int .i64 st.used, .slice Fo st.freed.length fc, .slice (some ⟨nb, 0, none⟩) (st.used + 1) nc, .slice (some ⟨o, 0, none⟩) n oc] 32 = O0 := ⟨_, rfl⟩
  obtain ⟨O1, hO1⟩ : ∃ O1, Obj.cells #[.int .i64 0, .int .i64 0, .slice none 0 0, .slice none 0 0, .slice none 0 0] 32 = O1 := ⟨_, rfl⟩
  have hown : (((w.alloc O0).alloc O1).alloc (.cells #[] 26)).ownsRow (w.heap.size + 1 + 1) 26 1 (.slice (some ⟨w.heap.size + 1 + 1, 0, none⟩) 0 0) 0 [] := by
    have := World.ownsRow_lit (base := w.heap.size + 1 + 1) (e := 26) (size := 1) ((w.alloc O0).alloc O1) #[] 0 (by simp) (by unfold maxLen; omega) rfl
    simpa using this
  have hbA : Below w.heap.size w (((w.alloc O0).alloc O1).alloc (.cells #[] 26)) := (((Below.refl _ _).alloc (Nat.le_refl _) _).alloc (by simp) _).alloc (by simp; omega) _
  have hb00 : (((w.alloc O0).alloc O1).alloc (.cells #[] 26)).heap[w.heap.size]? = some O0 := (Below.heap_alloc _ _ _ (by simp; omega)).trans ((Below.heap_alloc _ _ _ (by simp)).trans (World.alloc_heap_new w O0))
  have hb11 : (((w.alloc O0).alloc O1).alloc (.cells #[] 26)).heap[w.heap.size + 1]? = some O1 := (Below.heap_alloc _ _ _ (by simp)).trans (by have := World.alloc_heap_new (w.alloc O0) O1; rwa [World.size_alloc] at this)
  have hszA : (((w.alloc O0).alloc O1).alloc (.cells #[] 26)).heap.size = w.heap.size + 3 := by simp
  have hsrc := hrows.src (oc := oc) ho hbA
  subst hO0 hO1
  have HOWN := Lib.hid hown
  have HBA := Lib.hid hbA
  have HB00 := Lib.hid hb00
  have HB11 := Lib.hid hb11
  have HSZ := Lib.hid hszA
  have HSRC := Lib.hid hsrc
  have HONE := Lib.hid hrows.one
  clear hown hbA hb00 hb11 hszA hsrc
  clear href hrows hx hKx
  go_enter Try.func53, Try.ntmps53
  go_wp2_with (at_builtin; refine wpList_append_src rfl (.tmp 8) (.tmp 10) 30 rfl (w.heap.size + 1 + 1) 26 (.slice none 0 0) 1 24 (by kernel_rfl) (by kernel_rfl) rfl (by decide) _ 0 _ rfl HOWN.out (some ⟨o, 0, none⟩) n oc (rowVals w o n) rfl HSRC.out HONE.out (by omega) (by omega) (by simp) ?_)
  intro v2 w2 hown2 hgrow2
  have hbl2 := below_grown (Below.refl (w.heap.size + 1 + 1) _) HOWN.out hgrow2 (by simp)
  obtain ⟨g, cap, rfl, hg1, hg2⟩ := hown2.form (by omega)
  obtain ⟨cur, hcur, hcap, hcsz, htake⟩ := own_free hown2 (by omega)
  have hb0 := (hbl2.block w.heap.size (by omega)).trans HB00.out
  have hb1 := (hbl2.block (w.heap.size + 1) (by omega)).trans HB11.out
  have hs2 := hbl2.size
  rw [HSZ.out] at hs2
  obtain ⟨b0, b1, b2, b3, b4⟩ := five_cells hb0
  obtain ⟨f0, f1, f2, f3, f4⟩ := five_free hb0
  obtain ⟨x0, x1, x2, x3, x4⟩ := five_cells hb1
  obtain ⟨z0, z1, z2, z3, z4⟩ := five_free hb1
  have hgt : w2.cell? ⟨g, t, none⟩ = some ((rowVals w o n)[t]'(by rw [rowVals_len]; exact ht)) := own_cells hown2 t (by rw [rowVals_len]; exact ht)
  have hgf : w2.frozen? ⟨g, t, none⟩ = false := (head_row hcur).frozen t
  have n1 : g ≠ w.heap.size := by omega
  have n2 : g ≠ w.heap.size + 1 := by omega
  have HWS := Lib.hid (with_set (g := g) (B0 := w.heap.size) (t := t) hb1 n1 n2 (by omega) (.slice F xs.length c) (.slice (some ⟨g, 0, none⟩) n cap) (.int .i64 st.n) (.int .i64 st.used) (.slice Fo st.freed.length fc) (.slice (some ⟨nb, 0, none⟩) (st.used + 1) nc) (.slice (some ⟨g, 0, none⟩) n cap))
  have HOWN2 := Lib.hid hown2
  have HBL2 := Lib.hid (HBA.out.trans (hbl2.mono (by omega)))
  have hlt1 : w.heap.size + 1 < w2.heap.size := by omega
  have hne0 : w.heap.size ≠ w.heap.size + 1 := by omega
  have HG1 := Lib.hid hg1
  clear hown2 hgrow2 hbl2 hb0 hb1 hcur htake HOWN HSRC HONE HB00 HB11 hs2 hg1
  go_wp2
  have hws := HWS.out
  generalize (((((((w2.setCell ⟨g, t, none⟩ (.slice F xs.length c)).setCell ⟨w.heap.size, 4, none⟩ (.slice (some ⟨g, 0, none⟩) n cap)).setCell ⟨w.heap.size + 1, 0, none⟩ (.int .i64 st.n)).setCell ⟨w.heap.size + 1, 1, none⟩ (.int .i64 st.used)).setCell ⟨w.heap.size + 1, 2, none⟩ (.slice Fo st.freed.length fc)).setCell ⟨w.heap.size + 1, 3, none⟩ (.slice (some ⟨nb, 0, none⟩) (st.used + 1) nc)).setCell ⟨w.heap.size + 1, 4, none⟩ (.slice (some ⟨g, 0, none⟩) n cap)) = W at hws ⊢
  clear x0 x1 x2 x3 x4 z0 z1 z2 z3 z4 b0 b1 b2 b3 b4 f0 f1 f2 f3 f4
  obtain ⟨y0, y1, y2, y3, y4⟩ := five_cells hws.1
  have hW2 := hws.2.1.size
  have hbW : Below w.heap.size w W := HBL2.out.trans (hws.2.1.below (by simp; have := HG1.out; omega) (by omega))
  refine bodyPost_ret (v := refLs st.n st.used Fo st.freed.length fc nb (st.used + 1) nc (some ⟨g, 0, none⟩) n cap) (by simp [results, Try.results53, go_sem, y0, y1, y2, y3, y4]) rfl ⟨_, g :: (Kx ++ K), rfl, hbW, ⟨Fo, fc, nb, nc, g, cap, rfl, hcap, ?_, by simp, fun j hj => ?_⟩, fun x hx => ?_⟩
  · have hr := HRF.out.below hbW
    obtain ⟨h0, Fo', fc', nb', nc', nd', e', k1, k2, k3⟩ := hr
    exact ⟨fun x hx => by
      rcases List.mem_cons.1 hx with rfl | hx
      · omega
      · rcases List.mem_append.1 hx with hx | hx
        · exact Nat.lt_of_lt_of_le (HKX.out x hx) hbW.size
        · exact h0 x hx, Fo', fc', nb', nc', nd', e', ⟨k1.cap, k1.mem.imp id (fun ⟨fb, q1, q2, q3⟩ => ⟨fb, q1, by simp [q2], q3⟩)⟩, ⟨k2.cap, by simp [k2.kin], k2.cells⟩, k3⟩
  · have hcell : W.cell? ⟨g, j, none⟩ = (w2.setCell ⟨g, t, none⟩ (.slice F xs.length c)).cell? ⟨g, j, none⟩ := World.cell?_of_block hws.2.2
    by_cases e : j = t
    · subst e
      refine ⟨F, c, ?_, ?_⟩
      · rw [upd_same, hcell, World.cell?_setCell_same' _ _ _ (by rw [hgt]; rfl)]
      · rw [upd_same]
        have := HX.out.later HKX.out hbW
        exact ⟨this.cap, this.mem.imp id (fun ⟨fb, q1, q2, q3⟩ => ⟨fb, q1, by simp [q2], q3⟩)⟩
    · obtain ⟨_, F', c', e2, hf⟩ := HRW.out.vals hj
      refine ⟨F', c', ?_, ?_⟩
      · rw [upd_other _ _ _ e, hcell]
        have h1 := own_cells HOWN2.out j (by rw [rowVals_len]; exact hj)
        rw [List.getElem?_eq_getElem (by rw [rowVals_len]; exact hj)] at e2
        injection e2 with e2
        rw [e2] at h1
        rw [World.cell?_setCell_other _ _ _ _ (by simp)]
        exact h1
      · rw [upd_other _ _ _ e]
        have := hf.later HRF.out.1 hbW
        exact ⟨this.cap, this.mem.imp id (fun ⟨fb, q1, q2, q3⟩ => ⟨fb, q1, by simp [q2], q3⟩)⟩
  · rcases List.mem_cons.1 hx with rfl | hx
    · exact .inr (.inr (by have := HG1.out; omega))
    · rcases List.mem_append.1 hx with hx | hx
      · exact .inr (.inl hx)
      · exact .inl hx
end Go.Proofs.Ytlmcodmglcmmoaa
