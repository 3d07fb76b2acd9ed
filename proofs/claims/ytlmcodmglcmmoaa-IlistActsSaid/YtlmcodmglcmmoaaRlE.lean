/- The document's own lists: Do. -/
import Derived.Test.YtlmcodmglcmmoaaRlD
namespace Go.Proofs.Ytlmcodmglcmmoaa
open Go Go.RowKit Go.Deep

section
variable {w : World} {v : Value} {n : Nat} {l : Nat → List Nat} {st : St} {K : List Nat}
theorem rldo_0 (h : RefL w v n l st K) (a : Actl) (wf : a.Wf) (hk : a.kind % 4 = 0) (l' : Nat → List Nat) (ok : Bool)
    (hcall : ∀ w', Below w.heap.size w w' → Calls Try.prog 35 #[v, .int .i64 a.tag, .int .i32 a.i, .bool true] w' (RlNext w' K n l' st (fun v' => .tuple #[v', .bool ok]))) :
    Calls Try.prog 11 #[v, .agg (actlCells a)] w (RlNext w K n l' st (fun v' => .tuple #[v', .bool ok])) := by
  have HC := Lib.hid hcall
  have HH0 := Lib.hid h.old
  have k1 := wf.k
  have e1 : (a.kind : Int) % 4 = 0 := by omega
  have e2 : (a.kind : Int).tmod 4 = 0 := by rw [Int.tmod_eq_emod_of_nonneg (by omega)]; exact e1
  obtain ⟨Fo, fc, nb, nc, o, oc, rfl, _⟩ := h
  clear hcall wf
  go_enter Try.func11, Try.ntmps11
  go_wp2_with fail
  refine (HC.out _ ((((Below.refl _ _).alloc (Nat.le_refl _) _).alloc (by simp) _).alloc (by simp; omega) _)).mono ?_
  rintro e w3 ⟨v3, K3, rfl, hb, hr3, hk3⟩
  have HR3 := Lib.hid hr3
  obtain ⟨Fo3, fc3, nb3, nc3, o3, oc3, rfl, _⟩ := hr3
  obtain ⟨hb1, hs1, hB0, hB1, hB2⟩ := three_blocks hb
  have HK3 : Hid (∀ y ∈ K3, y ∈ K ∨ w.heap.size + 2 < y) := Lib.hid (fun y hy => (hk3 y hy).imp id (fun g => by simp at g; omega))
  have HB3 := Lib.hid hb1
  obtain ⟨x0, x1, x2, x3, x4⟩ := five_cells hB2
  obtain ⟨z0, z1, z2, z3, z4⟩ := five_free hB2
  have H4 := Lib.hid (fiveR_set hB2 (.int .i64 st.n) (.int .i64 st.used) (.slice Fo3 st.freed.length fc3) (.slice (some ⟨nb3, 0, none⟩) (st.used + 1) nc3) (.slice (some ⟨o3, 0, none⟩) n oc3))
  clear hb hb1 hB0 hB1 hB2 hk3
  go_wp2
  have h4 := H4.out
  generalize (((((w3.setCell ⟨w.heap.size + 2, 0, none⟩ (.int .i64 st.n)).setCell ⟨w.heap.size + 2, 1, none⟩ (.int .i64 st.used)).setCell ⟨w.heap.size + 2, 2, none⟩ (.slice Fo3 st.freed.length fc3)).setCell ⟨w.heap.size + 2, 3, none⟩ (.slice (some ⟨nb3, 0, none⟩) (st.used + 1) nc3)).setCell ⟨w.heap.size + 2, 4, none⟩ (.slice (some ⟨o3, 0, none⟩) n oc3)) = W at h4 ⊢
  clear x0 x1 x2 x3 x4 z0 z1 z2 z3 z4
  obtain ⟨y0, y1, y2, y3, y4⟩ := five_cells h4.1
  have hbW := below_only HB3.out h4.2 (by omega)
  refine bodyPost_ret (v := .tuple #[refLs st.n st.used Fo3 st.freed.length fc3 nb3 (st.used + 1) nc3 (some ⟨o3, 0, none⟩) n oc3, .bool ok]) (by simp [results, Try.results11, go_sem, y0, y1, y2, y3, y4]) rfl ⟨_, K3, rfl, hbW, ?_, fun y hy => (HK3.out y hy).imp id (fun g => by omega)⟩
  refine HR3.out.kept (fun y hy => h4.2.block y (HR3.out.old y hy) ?_) (fun y hy => Nat.lt_of_lt_of_le (HR3.out.old y hy) h4.2.size)
  simp only [List.mem_singleton]
  rintro rfl
  rcases HK3.out _ hy with g | g
  · have := HH0.out _ g; omega
  · omega
theorem rldo_1 (h : RefL w v n l st K) (a : Actl) (wf : a.Wf) (hk : a.kind % 4 = 1) (l' : Nat → List Nat) (ok : Bool)
    (hcall : ∀ w', Below w.heap.size w w' → Calls Try.prog 35 #[v, .int .i64 a.tag, .int .i32 a.i, .bool false] w' (RlNext w' K n l' st (fun v' => .tuple #[v', .bool ok]))) :
    Calls Try.prog 11 #[v, .agg (actlCells a)] w (RlNext w K n l' st (fun v' => .tuple #[v', .bool ok])) := by
  have HC := Lib.hid hcall
  have HH0 := Lib.hid h.old
  have k1 := wf.k
  have e1 : (a.kind : Int) % 4 = 1 := by omega
  have e2 : (a.kind : Int).tmod 4 = 1 := by rw [Int.tmod_eq_emod_of_nonneg (by omega)]; exact e1
  obtain ⟨Fo, fc, nb, nc, o, oc, rfl, _⟩ := h
  clear hcall wf
  go_enter Try.func11, Try.ntmps11
  go_wp2_with fail
  refine (HC.out _ ((((Below.refl _ _).alloc (Nat.le_refl _) _).alloc (by simp) _).alloc (by simp; omega) _)).mono ?_
  rintro e w3 ⟨v3, K3, rfl, hb, hr3, hk3⟩
  have HR3 := Lib.hid hr3
  obtain ⟨Fo3, fc3, nb3, nc3, o3, oc3, rfl, _⟩ := hr3
  obtain ⟨hb1, hs1, hB0, hB1, hB2⟩ := three_blocks hb
  have HK3 : Hid (∀ y ∈ K3, y ∈ K ∨ w.heap.size + 2 < y) := Lib.hid (fun y hy => (hk3 y hy).imp id (fun g => by simp at g; omega))
  have HB3 := Lib.hid hb1
  obtain ⟨x0, x1, x2, x3, x4⟩ := five_cells hB2
  obtain ⟨z0, z1, z2, z3, z4⟩ := five_free hB2
  have H4 := Lib.hid (fiveR_set hB2 (.int .i64 st.n) (.int .i64 st.used) (.slice Fo3 st.freed.length fc3) (.slice (some ⟨nb3, 0, none⟩) (st.used + 1) nc3) (.slice (some ⟨o3, 0, none⟩) n oc3))
  clear hb hb1 hB0 hB1 hB2 hk3
  go_wp2
  have h4 := H4.out
  generalize (((((w3.setCell ⟨w.heap.size + 2, 0, none⟩ (.int .i64 st.n)).setCell ⟨w.heap.size + 2, 1, none⟩ (.int .i64 st.used)).setCell ⟨w.heap.size + 2, 2, none⟩ (.slice Fo3 st.freed.length fc3)).setCell ⟨w.heap.size + 2, 3, none⟩ (.slice (some ⟨nb3, 0, none⟩) (st.used + 1) nc3)).setCell ⟨w.heap.size + 2, 4, none⟩ (.slice (some ⟨o3, 0, none⟩) n oc3)) = W at h4 ⊢
  clear x0 x1 x2 x3 x4 z0 z1 z2 z3 z4
  obtain ⟨y0, y1, y2, y3, y4⟩ := five_cells h4.1
  have hbW := below_only HB3.out h4.2 (by omega)
  refine bodyPost_ret (v := .tuple #[refLs st.n st.used Fo3 st.freed.length fc3 nb3 (st.used + 1) nc3 (some ⟨o3, 0, none⟩) n oc3, .bool ok]) (by simp [results, Try.results11, go_sem, y0, y1, y2, y3, y4]) rfl ⟨_, K3, rfl, hbW, ?_, fun y hy => (HK3.out y hy).imp id (fun g => by omega)⟩
  refine HR3.out.kept (fun y hy => h4.2.block y (HR3.out.old y hy) ?_) (fun y hy => Nat.lt_of_lt_of_le (HR3.out.old y hy) h4.2.size)
  simp only [List.mem_singleton]
  rintro rfl
  rcases HK3.out _ hy with g | g
  · have := HH0.out _ g; omega
  · omega
theorem rldo_2 (h : RefL w v n l st K) (a : Actl) (wf : a.Wf) (hk : a.kind % 4 = 2) (l' : Nat → List Nat) (ok : Bool)
    (hcall : ∀ w', Below w.heap.size w w' → Calls Try.prog 36 #[v, .int .i32 a.i] w' (RlNext w' K n l' st (fun v' => .tuple #[v', .bool ok]))) :
    Calls Try.prog 11 #[v, .agg (actlCells a)] w (RlNext w K n l' st (fun v' => .tuple #[v', .bool ok])) := by
  have HC := Lib.hid hcall
  have HH0 := Lib.hid h.old
  have k1 := wf.k
  have e1 : (a.kind : Int) % 4 = 2 := by omega
  have e2 : (a.kind : Int).tmod 4 = 2 := by rw [Int.tmod_eq_emod_of_nonneg (by omega)]; exact e1
  obtain ⟨Fo, fc, nb, nc, o, oc, rfl, _⟩ := h
  clear hcall wf
  go_enter Try.func11, Try.ntmps11
  go_wp2_with fail
  refine (HC.out _ ((((Below.refl _ _).alloc (Nat.le_refl _) _).alloc (by simp) _).alloc (by simp; omega) _)).mono ?_
  rintro e w3 ⟨v3, K3, rfl, hb, hr3, hk3⟩
  have HR3 := Lib.hid hr3
  obtain ⟨Fo3, fc3, nb3, nc3, o3, oc3, rfl, _⟩ := hr3
  obtain ⟨hb1, hs1, hB0, hB1, hB2⟩ := three_blocks hb
  have HK3 : Hid (∀ y ∈ K3, y ∈ K ∨ w.heap.size + 2 < y) := Lib.hid (fun y hy => (hk3 y hy).imp id (fun g => by simp at g; omega))
  have HB3 := Lib.hid hb1
  obtain ⟨x0, x1, x2, x3, x4⟩ := five_cells hB2
  obtain ⟨z0, z1, z2, z3, z4⟩ := five_free hB2
  have H4 := Lib.hid (fiveR_set hB2 (.int .i64 st.n) (.int .i64 st.used) (.slice Fo3 st.freed.length fc3) (.slice (some ⟨nb3, 0, none⟩) (st.used + 1) nc3) (.slice (some ⟨o3, 0, none⟩) n oc3))
  clear hb hb1 hB0 hB1 hB2 hk3
  go_wp2
  have h4 := H4.out
  generalize (((((w3.setCell ⟨w.heap.size + 2, 0, none⟩ (.int .i64 st.n)).setCell ⟨w.heap.size + 2, 1, none⟩ (.int .i64 st.used)).setCell ⟨w.heap.size + 2, 2, none⟩ (.slice Fo3 st.freed.length fc3)).setCell ⟨w.heap.size + 2, 3, none⟩ (.slice (some ⟨nb3, 0, none⟩) (st.used + 1) nc3)).setCell ⟨w.heap.size + 2, 4, none⟩ (.slice (some ⟨o3, 0, none⟩) n oc3)) = W at h4 ⊢
  clear x0 x1 x2 x3 x4 z0 z1 z2 z3 z4
  obtain ⟨y0, y1, y2, y3, y4⟩ := five_cells h4.1
  have hbW := below_only HB3.out h4.2 (by omega)
  refine bodyPost_ret (v := .tuple #[refLs st.n st.used Fo3 st.freed.length fc3 nb3 (st.used + 1) nc3 (some ⟨o3, 0, none⟩) n oc3, .bool ok]) (by simp [results, Try.results11, go_sem, y0, y1, y2, y3, y4]) rfl ⟨_, K3, rfl, hbW, ?_, fun y hy => (HK3.out y hy).imp id (fun g => by omega)⟩
  refine HR3.out.kept (fun y hy => h4.2.block y (HR3.out.old y hy) ?_) (fun y hy => Nat.lt_of_lt_of_le (HR3.out.old y hy) h4.2.size)
  simp only [List.mem_singleton]
  rintro rfl
  rcases HK3.out _ hy with g | g
  · have := HH0.out _ g; omega
  · omega
theorem rldo_3 (h : RefL w v n l st K) (a : Actl) (wf : a.Wf) (hk : a.kind % 4 = 3) (l' : Nat → List Nat) (ok : Bool)
    (hcall : ∀ w', Below w.heap.size w w' → Calls Try.prog 37 #[v, .int .i64 a.tag, .int .i32 a.i] w' (RlNext w' K n l' st (fun v' => .tuple #[v', .bool ok]))) :
    Calls Try.prog 11 #[v, .agg (actlCells a)] w (RlNext w K n l' st (fun v' => .tuple #[v', .bool ok])) := by
  have HC := Lib.hid hcall
  have HH0 := Lib.hid h.old
  have k1 := wf.k
  have e1 : (a.kind : Int) % 4 = 3 := by omega
  have e2 : (a.kind : Int).tmod 4 = 3 := by rw [Int.tmod_eq_emod_of_nonneg (by omega)]; exact e1
  obtain ⟨Fo, fc, nb, nc, o, oc, rfl, _⟩ := h
  clear hcall wf
  go_enter Try.func11, Try.ntmps11
  go_wp2_with fail
  refine (HC.out _ ((((Below.refl _ _).alloc (Nat.le_refl _) _).alloc (by simp) _).alloc (by simp; omega) _)).mono ?_
  rintro e w3 ⟨v3, K3, rfl, hb, hr3, hk3⟩
  have HR3 := Lib.hid hr3
  obtain ⟨Fo3, fc3, nb3, nc3, o3, oc3, rfl, _⟩ := hr3
  obtain ⟨hb1, hs1, hB0, hB1, hB2⟩ := three_blocks hb
  have HK3 : Hid (∀ y ∈ K3, y ∈ K ∨ w.heap.size + 2 < y) := Lib.hid (fun y hy => (hk3 y hy).imp id (fun g => by simp at g; omega))
  have HB3 := Lib.hid hb1
  obtain ⟨x0, x1, x2, x3, x4⟩ := five_cells hB2
  obtain ⟨z0, z1, z2, z3, z4⟩ := five_free hB2
  have H4 := Lib.hid (fiveR_set hB2 (.int .i64 st.n) (.int .i64 st.used) (.slice Fo3 st.freed.length fc3) (.slice (some ⟨nb3, 0, none⟩) (st.used + 1) nc3) (.slice (some ⟨o3, 0, none⟩) n oc3))
  clear hb hb1 hB0 hB1 hB2 hk3
  go_wp2
  have h4 := H4.out
  generalize (((((w3.setCell ⟨w.heap.size + 2, 0, none⟩ (.int .i64 st.n)).setCell ⟨w.heap.size + 2, 1, none⟩ (.int .i64 st.used)).setCell ⟨w.heap.size + 2, 2, none⟩ (.slice Fo3 st.freed.length fc3)).setCell ⟨w.heap.size + 2, 3, none⟩ (.slice (some ⟨nb3, 0, none⟩) (st.used + 1) nc3)).setCell ⟨w.heap.size + 2, 4, none⟩ (.slice (some ⟨o3, 0, none⟩) n oc3)) = W at h4 ⊢
  clear x0 x1 x2 x3 x4 z0 z1 z2 z3 z4
  obtain ⟨y0, y1, y2, y3, y4⟩ := five_cells h4.1
  have hbW := below_only HB3.out h4.2 (by omega)
  refine bodyPost_ret (v := .tuple #[refLs st.n st.used Fo3 st.freed.length fc3 nb3 (st.used + 1) nc3 (some ⟨o3, 0, none⟩) n oc3, .bool ok]) (by simp [results, Try.results11, go_sem, y0, y1, y2, y3, y4]) rfl ⟨_, K3, rfl, hbW, ?_, fun y hy => (HK3.out y hy).imp id (fun g => by omega)⟩
  refine HR3.out.kept (fun y hy => h4.2.block y (HR3.out.old y hy) ?_) (fun y hy => Nat.lt_of_lt_of_le (HR3.out.old y hy) h4.2.size)
  simp only [List.mem_singleton]
  rintro rfl
  rcases HK3.out _ hy with g | g
  · have := HH0.out _ g; omega
  · omega
theorem rldo_walk (h : RefL w v n l st K) (g : Gd n l) (ho : st.Ok) (hn : st.n ≤ 1000000) (hT : ∀ t, t < n → ∀ x ∈ l t, st.tk x = true) (a : Actl) (wf : a.Wf) :
    Calls Try.prog 11 #[v, .agg (actlCells a)] w (RlNext w K n (actL n l st a) st (fun v' => .tuple #[v', .bool (doneL n l st a)])) := by
  unfold actL doneL
  by_cases h0 : a.kind % 4 = 0
  · rw [if_pos h0, if_pos h0]
    exact rldo_0 h a wf h0 _ _ (fun w' hb => rlpush_walk (h.below hb) g ho hn a.tag a.i wf.hi true)
  · rw [if_neg h0, if_neg h0]
    by_cases h1 : a.kind % 4 = 1
    · rw [if_pos h1, if_pos h1]
      exact rldo_1 h a wf h1 _ _ (fun w' hb => rlpush_walk (h.below hb) g ho hn a.tag a.i wf.hi false)
    · rw [if_neg h1, if_neg h1]
      by_cases h2 : a.kind % 4 = 2
      · rw [if_pos h2, if_pos h2]
        exact rldo_2 h a wf h2 _ _ (fun w' hb => rlrem_walk (h.below hb) g a.i)
      · rw [if_neg h2, if_neg h2]
        exact rldo_3 h a wf (by omega) _ _ (fun w' hb => rlmove_walk (h.below hb) g ho hn hT a.tag a.i wf.hi)
end
end Go.Proofs.Ytlmcodmglcmmoaa
