/- The document's own arena: Do. -/
import Derived.Test.YtdjokgjobkjdhaaRefA
import Derived.Test.YtdjokgjobkjdhaaDo
namespace Go.Proofs.Ytdjokgjobkjdhaa
open Go Go.RowKit Go.Deep

theorem rdo_alloc {w : World} {v : Value} {st : St} {K : List Nat} (h : Ref w v st K) (ho : st.Ok) (hn : st.n ≤ 1000000) (a : Actn) (wf : a.Wf) (hk : a.kind % 3 = 0) :
    Calls Try.prog 32 #[v, .agg (actCells a)] w (RefNext w K (st.alloc) (fun v' => .tuple #[v', .int .i32 st.next, .bool false])) := by
  have HRef0 := Lib.hid h
  obtain ⟨h0, Fo, fc, nb, nc, nd, rfl, _, _, _⟩ := h
  have HO := Lib.hid ho
  have H0 := Lib.hid h0
  have k1 := wf.k
  have k2 := wf.hi
  have e1 : (a.kind : Int) % 3 = 0 := by omega
  have e2 : (a.kind : Int).tmod 3 = 0 := by rw [Int.tmod_eq_emod_of_nonneg (by omega)]; exact e1
  clear h0 ho wf
  go_enter Try.func32, Try.ntmps32
  go_wp2_with fail
  refine (ralloc_walk (HRef0.out.below ((((Below.refl _ _).alloc (Nat.le_refl _) _).alloc (by simp) _).alloc (by simp; omega) _)) HO.out hn).mono ?_
  rintro e w1 ⟨v', K', rfl, hb, hr, hk'⟩
  obtain ⟨hb1, hs1, hB0, hB1', hB1⟩ := three_blocks hb
  have HRef := Lib.hid hr
  obtain ⟨_, Fo', fc', nb', nc', nd', rfl, _, _, _⟩ := hr
  obtain ⟨x0, x1, x2, x3⟩ := four_cells hB1
  obtain ⟨z0, z1, z2, z3⟩ := four_free hB1
  have HB := Lib.hid hb1
  have HK' : Hid (∀ k ∈ K', k ∈ K ∨ w.heap.size ≤ k) := Lib.hid (fun k hkk => (hk' k hkk).imp id (fun h => by simp at h; omega))
  have HR1 : Hid (∀ k ∈ K', k ≠ w.heap.size + 2) := Lib.hid (fun k hkk => by
    rcases hk' k hkk with h | h
    · have := H0.out k h; omega
    · simp at h; omega)
  generalize (st.alloc).n = N, (st.alloc).used = U, (st.alloc).freed.length = M at *
  have H4 := Lib.hid (four_set hB1 (.int .i64 N) (.int .i64 U) (.slice Fo' M fc') (.slice (some ⟨nb', 0, none⟩) (U + 1) nc'))
  clear hb hb1 hB0 hB1 hB1' hk'
  go_wp2
  have h4 := H4.out
  generalize ((((w1.setCell ⟨w.heap.size + 2, 0, none⟩ (.int .i64 N)).setCell ⟨w.heap.size + 2, 1, none⟩ (.int .i64 U)).setCell ⟨w.heap.size + 2, 2, none⟩ (.slice Fo' M fc')).setCell ⟨w.heap.size + 2, 3, none⟩ (.slice (some ⟨nb', 0, none⟩) (U + 1) nc')) = W at h4 ⊢
  have hWs := h4.2.size
  have h41 := (Below.heap_alloc W (.cells #[.int .i64 N, .int .i64 U, .slice Fo' M fc', .slice (some ⟨nb', 0, none⟩) (U + 1) nc'] 31) (w.heap.size + 2) (by omega)).trans h4.1
  have hon : Only [w.heap.size + 2] w1 (W.alloc (.cells #[.int .i64 N, .int .i64 U, .slice Fo' M fc', .slice (some ⟨nb', 0, none⟩) (U + 1) nc'] 31)) := h4.2.alloc _
  clear x0 x1 x2 x3 z0 z1 z2 z3
  generalize W.alloc (.cells #[.int .i64 N, .int .i64 U, .slice Fo' M fc', .slice (some ⟨nb', 0, none⟩) (U + 1) nc'] 31) = V at h41 hon ⊢
  obtain ⟨y0, y1, y2, y3⟩ := four_cells h41
  have hbW := below_only HB.out hon (by omega)
  refine bodyPost_ret (v := .tuple #[refV N U Fo' M fc' nb' (U + 1) nc', .int .i32 st.next, .bool false]) (by simp [results, Try.results32, go_sem, y0, y1, y2, y3]) rfl ⟨_, K', rfl, hbW, HRef.out.kept (fun k hk => hon.block k (HRef.out.1 k hk) ?_) hon.size, HK'.out⟩
  have := HR1.out k hk
  simp
  exact this

theorem rdo_free {w : World} {v : Value} {st : St} {K : List Nat} (h : Ref w v st K) (ho : st.Ok) (hn : st.n ≤ 1000000) (a : Actn) (wf : a.Wf) (hk : a.kind % 3 = 1) :
    Calls Try.prog 32 #[v, .agg (actCells a)] w (RefNext w K (st.freeI a.i) (fun v' => .tuple #[v', .int .i32 0, .bool (st.is a.i)])) := by
  have HRef0 := Lib.hid h
  obtain ⟨h0, Fo, fc, nb, nc, nd, rfl, _, _, _⟩ := h
  have HO := Lib.hid ho
  have H0 := Lib.hid h0
  have k1 := wf.k
  have k2 := wf.hi
  have e1 : (a.kind : Int) % 3 = 1 := by omega
  have e2 : (a.kind : Int).tmod 3 = 1 := by rw [Int.tmod_eq_emod_of_nonneg (by omega)]; exact e1
  clear h0 ho wf
  go_enter Try.func32, Try.ntmps32
  go_wp2_with fail
  refine (rfree_walk (HRef0.out.below ((((Below.refl _ _).alloc (Nat.le_refl _) _).alloc (by simp) _).alloc (by simp; omega) _)) HO.out hn a.i k2).mono ?_
  rintro e w1 ⟨v', K', rfl, hb, hr, hk'⟩
  obtain ⟨hb1, hs1, hB0, hB1', hB1⟩ := three_blocks hb
  have HRef := Lib.hid hr
  obtain ⟨_, Fo', fc', nb', nc', nd', rfl, _, _, _⟩ := hr
  obtain ⟨x0, x1, x2, x3⟩ := four_cells hB1
  obtain ⟨z0, z1, z2, z3⟩ := four_free hB1
  have HB := Lib.hid hb1
  have HK' : Hid (∀ k ∈ K', k ∈ K ∨ w.heap.size ≤ k) := Lib.hid (fun k hkk => (hk' k hkk).imp id (fun h => by simp at h; omega))
  have HR1 : Hid (∀ k ∈ K', k ≠ w.heap.size + 2) := Lib.hid (fun k hkk => by
    rcases hk' k hkk with h | h
    · have := H0.out k h; omega
    · simp at h; omega)
  generalize (st.freeI a.i).n = N, (st.freeI a.i).used = U, (st.freeI a.i).freed.length = M at *
  have H4 := Lib.hid (four_set hB1 (.int .i64 N) (.int .i64 U) (.slice Fo' M fc') (.slice (some ⟨nb', 0, none⟩) (U + 1) nc'))
  clear hb hb1 hB0 hB1 hB1' hk'
  go_wp2
  have h4 := H4.out
  generalize ((((w1.setCell ⟨w.heap.size + 2, 0, none⟩ (.int .i64 N)).setCell ⟨w.heap.size + 2, 1, none⟩ (.int .i64 U)).setCell ⟨w.heap.size + 2, 2, none⟩ (.slice Fo' M fc')).setCell ⟨w.heap.size + 2, 3, none⟩ (.slice (some ⟨nb', 0, none⟩) (U + 1) nc')) = W at h4 ⊢
  have hWs := h4.2.size
  have h41 := (Below.heap_alloc W (.cells #[.int .i64 N, .int .i64 U, .slice Fo' M fc', .slice (some ⟨nb', 0, none⟩) (U + 1) nc'] 31) (w.heap.size + 2) (by omega)).trans h4.1
  have hon : Only [w.heap.size + 2] w1 (W.alloc (.cells #[.int .i64 N, .int .i64 U, .slice Fo' M fc', .slice (some ⟨nb', 0, none⟩) (U + 1) nc'] 31)) := h4.2.alloc _
  clear x0 x1 x2 x3 z0 z1 z2 z3
  generalize W.alloc (.cells #[.int .i64 N, .int .i64 U, .slice Fo' M fc', .slice (some ⟨nb', 0, none⟩) (U + 1) nc'] 31) = V at h41 hon ⊢
  obtain ⟨y0, y1, y2, y3⟩ := four_cells h41
  have hbW := below_only HB.out hon (by omega)
  refine bodyPost_ret (v := .tuple #[refV N U Fo' M fc' nb' (U + 1) nc', .int .i32 0, .bool (st.is a.i)]) (by simp [results, Try.results32, go_sem, y0, y1, y2, y3]) rfl ⟨_, K', rfl, hbW, HRef.out.kept (fun k hk => hon.block k (HRef.out.1 k hk) ?_) hon.size, HK'.out⟩
  have := HR1.out k hk
  simp
  exact this

theorem rdo_set {w : World} {v : Value} {st : St} {K : List Nat} (h : Ref w v st K) (ho : st.Ok) (hn : st.n ≤ 1000000) (a : Actn) (wf : a.Wf) (hk : a.kind % 3 = 2) :
    Calls Try.prog 32 #[v, .agg (actCells a)] w (RefNext w K (st.setI a.i a.x) (fun v' => .tuple #[v', .int .i32 0, .bool (st.is a.i)])) := by
  have HRef0 := Lib.hid h
  obtain ⟨h0, Fo, fc, nb, nc, nd, rfl, _, _, _⟩ := h
  have HO := Lib.hid ho
  have H0 := Lib.hid h0
  have k1 := wf.k
  have k2 := wf.hi
  have e1 : (a.kind : Int) % 3 = 2 := by omega
  have e2 : (a.kind : Int).tmod 3 = 2 := by rw [Int.tmod_eq_emod_of_nonneg (by omega)]; exact e1
  clear h0 ho wf
  go_enter Try.func32, Try.ntmps32
  go_wp2_with fail
  refine (rset_walk (HRef0.out.below ((((Below.refl _ _).alloc (Nat.le_refl _) _).alloc (by simp) _).alloc (by simp; omega) _)) HO.out hn a.i k2 a.x).mono ?_
  rintro e w1 ⟨v', K', rfl, hb, hr, hk'⟩
  obtain ⟨hb1, hs1, hB0, hB1', hB1⟩ := three_blocks hb
  have HRef := Lib.hid hr
  obtain ⟨_, Fo', fc', nb', nc', nd', rfl, _, _, _⟩ := hr
  obtain ⟨x0, x1, x2, x3⟩ := four_cells hB1
  obtain ⟨z0, z1, z2, z3⟩ := four_free hB1
  have HB := Lib.hid hb1
  have HK' : Hid (∀ k ∈ K', k ∈ K ∨ w.heap.size ≤ k) := Lib.hid (fun k hkk => (hk' k hkk).imp id (fun h => by simp at h; omega))
  have HR1 : Hid (∀ k ∈ K', k ≠ w.heap.size + 2) := Lib.hid (fun k hkk => by
    rcases hk' k hkk with h | h
    · have := H0.out k h; omega
    · simp at h; omega)
  generalize (st.setI a.i a.x).n = N, (st.setI a.i a.x).used = U, (st.setI a.i a.x).freed.length = M at *
  have H4 := Lib.hid (four_set hB1 (.int .i64 N) (.int .i64 U) (.slice Fo' M fc') (.slice (some ⟨nb', 0, none⟩) (U + 1) nc'))
  clear hb hb1 hB0 hB1 hB1' hk'
  go_wp2
  have h4 := H4.out
  generalize ((((w1.setCell ⟨w.heap.size + 2, 0, none⟩ (.int .i64 N)).setCell ⟨w.heap.size + 2, 1, none⟩ (.int .i64 U)).setCell ⟨w.heap.size + 2, 2, none⟩ (.slice Fo' M fc')).setCell ⟨w.heap.size + 2, 3, none⟩ (.slice (some ⟨nb', 0, none⟩) (U + 1) nc')) = W at h4 ⊢
  have hWs := h4.2.size
  have h41 := (Below.heap_alloc W (.cells #[.int .i64 N, .int .i64 U, .slice Fo' M fc', .slice (some ⟨nb', 0, none⟩) (U + 1) nc'] 31) (w.heap.size + 2) (by omega)).trans h4.1
  have hon : Only [w.heap.size + 2] w1 (W.alloc (.cells #[.int .i64 N, .int .i64 U, .slice Fo' M fc', .slice (some ⟨nb', 0, none⟩) (U + 1) nc'] 31)) := h4.2.alloc _
  clear x0 x1 x2 x3 z0 z1 z2 z3
  generalize W.alloc (.cells #[.int .i64 N, .int .i64 U, .slice Fo' M fc', .slice (some ⟨nb', 0, none⟩) (U + 1) nc'] 31) = V at h41 hon ⊢
  obtain ⟨y0, y1, y2, y3⟩ := four_cells h41
  have hbW := below_only HB.out hon (by omega)
  refine bodyPost_ret (v := .tuple #[refV N U Fo' M fc' nb' (U + 1) nc', .int .i32 0, .bool (st.is a.i)]) (by simp [results, Try.results32, go_sem, y0, y1, y2, y3]) rfl ⟨_, K', rfl, hbW, HRef.out.kept (fun k hk => hon.block k (HRef.out.1 k hk) ?_) hon.size, HK'.out⟩
  have := HR1.out k hk
  simp
  exact this

theorem rdo_walk {w : World} {v : Value} {st : St} {K : List Nat} (h : Ref w v st K) (ho : st.Ok) (hn : st.n ≤ 1000000) (a : Actn) (wf : a.Wf) :
    Calls Try.prog 32 #[v, .agg (actCells a)] w (RefNext w K (st.act a) (fun v' => .tuple #[v', .int .i32 (st.slot a), .bool (st.done a)])) := by
  unfold St.slot St.done St.act
  by_cases h0 : a.kind % 3 = 0
  · rw [if_pos h0, if_pos h0, if_pos h0]; exact rdo_alloc h ho hn a wf h0
  · rw [if_neg h0, if_neg h0, if_neg h0]
    by_cases h1 : a.kind % 3 = 1
    · rw [if_pos h1]; exact rdo_free h ho hn a wf h1
    · rw [if_neg h1]; exact rdo_set h ho hn a wf (by omega)
end Go.Proofs.Ytdjokgjobkjdhaa
