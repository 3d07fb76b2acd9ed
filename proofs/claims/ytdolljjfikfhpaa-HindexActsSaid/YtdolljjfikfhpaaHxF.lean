/- The document's own table: Do. -/
import Derived.Test.YtdolljjfikfhpaaHxJ
import Derived.Test.YtdolljjfikfhpaaHxA
namespace Go.Proofs.Ytdolljjfikfhpaa
open Go Go.RowKit Go.Deep

theorem res_fin {w w5 : World} {r0 : Nat} {U : Tb} {g5 c5 : Nat} (hB : w5.heap[r0]? = some (.cells #[.slice none 0 0] 27 (0, 0))) (hb : Below w.heap.size w w5) (h0 : w.heap.size ≤ r0) (r5 : RefT w5 U g5) (hne : g5 ≠ r0) :
    ∀ V, V = w5.setCell ⟨r0, 0, none⟩ (.slice (some ⟨g5, 0, none⟩) U.n c5) → V.cell? ⟨r0, 0, none⟩ = some (.slice (some ⟨g5, 0, none⟩) U.n c5) ∧ Below w.heap.size w V ∧ RefT V U g5 := by
  rintro V rfl
  obtain ⟨y0, o⟩ := one_set hB (.slice (some ⟨g5, 0, none⟩) U.n c5)
  exact ⟨y0, hb.trans (o.below (B := w.heap.size) (by simpa using h0) hb.size), r5.only o (by simpa using hne)⟩
theorem res_cells {w5 : World} {r0 : Nat} (hB : w5.heap[r0]? = some (.cells #[.slice none 0 0] 27 (0, 0))) : w5.cell? ⟨r0, 0, none⟩ = some (.slice none 0 0) ∧ w5.frozen? ⟨r0, 0, none⟩ = false :=
  ⟨(head_row hB).cell (i := 0) (by simp), (head_row hB).frozen 0⟩

set_option maxHeartbeats 1000000 in
theorem rdo_walk {w : World} {T : Tb} {g : Nat} (h : RefT w T g) (gd : T.Good) (hn : T.n ≤ 100000) (hkeys : T.Keys) (c : Nat) (x : Actx) (ok : x.Ok) :
    Calls Try.prog 24 #[tabV g T.n c, .agg (actC x)] w (DelPost w (actT T x) g (fun v => .tuple #[v, .bool (doneT T x)])) := by
  obtain ⟨kind, key, n⟩ := x
  have hk := ok.kind
  have hky := ok.key
  simp only at hk hky
  have hglt := h.lt
  have hb3 := (((Below.refl w.heap.size w).alloc (Nat.le_refl _) (.cells #[.slice (some ⟨g, 0, none⟩) T.n c] 27)).alloc (by simp) (.cells #[.int .u8 (kind : Nat), .int .u64 (key : Nat), .int .i32 n] 45)).alloc (by simp; omega) (.cells #[.slice none 0 0] 27)
  have HD := Lib.hid (rdel_walk (h.below hb3) gd hn key c hky hkeys)
  have HP := Lib.hid (rput_walk (h.below hb3) gd hn key c hky n hkeys)
  have HAT : Hid (actT T ⟨kind, key, n⟩ = if kind % 3 = 2 then T.del key else T.put key n) := Lib.hid rfl
  have HDT : Hid (doneT T ⟨kind, key, n⟩ = if kind % 3 = 2 then T.there key else false) := Lib.hid rfl
  clear h gd ok hkeys hb3 hky
  by_cases hc : kind % 3 = 2
  · rw [if_pos hc] at HAT HDT
    have e1 : (kind : Int) % 3 = 2 := by omega
    have e2 : (kind : Int).tmod 3 = 2 := by rw [Int.tmod_eq_emod_of_nonneg (by omega)]; exact e1
    clear HP
    go_enter Try.func24, Try.ntmps24
    go_wp2_with fail
    refine HD.out.mono ?_
    rintro e w5 ⟨g5, c5, rfl, b5, r5, l5⟩
    obtain ⟨hb1, hs1, _, _, hB2⟩ := three_blocks b5
    obtain ⟨y1, z1⟩ := res_cells hB2
    have hg5 : g5 ≠ w.heap.size + 2 ∧ (g5 = g ∨ w.heap.size ≤ g5) := by
      rcases l5 with rfl | l5
      · exact ⟨by omega, .inl rfl⟩
      · simp at l5; exact ⟨by omega, .inr (by omega)⟩
    have HF := Lib.hid (res_fin (c5 := c5) hB2 hb1 (by omega) r5 hg5.1)
    have HG := Lib.hid hg5.2
    clear b5 r5 l5 hb1 hB2 hg5 HD
    go_wp2_with fail
    obtain ⟨y0, hV1, hV2⟩ := HF.out _ rfl
    generalize (w5.setCell ⟨w.heap.size + 2, 0, none⟩ (.slice (some ⟨g5, 0, none⟩) (T.del key).n c5)) = V at y0 hV1 hV2 ⊢
    exact bodyPost_ret (v := .tuple #[tabV g5 (T.del key).n c5, .bool (T.there key)]) (by simp [results, Try.results24, go_sem, y0]) rfl ⟨g5, c5, by rw [HAT.out, HDT.out], hV1, by rw [HAT.out]; exact hV2, HG.out⟩
  · rw [if_neg hc] at HAT HDT
    have e1 : ((kind : Int) % 3 == 2) = false := by rw [beq_eq_false_iff_ne]; omega
    have e2 : ((kind : Int).tmod 3 == 2) = false := by rw [Int.tmod_eq_emod_of_nonneg (by omega)]; exact e1
    clear HD
    go_enter Try.func24, Try.ntmps24
    go_wp2_with fail
    refine HP.out.mono ?_
    rintro e w5 ⟨g5, c5, rfl, b5, r5, l5⟩
    obtain ⟨hb1, hs1, _, _, hB2⟩ := three_blocks b5
    obtain ⟨y1, z1⟩ := res_cells hB2
    have hg5 : g5 ≠ w.heap.size + 2 ∧ w.heap.size ≤ g5 := by simp at l5; exact ⟨by omega, by omega⟩
    have HF := Lib.hid (res_fin (c5 := c5) hB2 hb1 (by omega) r5 hg5.1)
    have HG := Lib.hid hg5.2
    clear b5 r5 l5 hb1 hB2 hg5 HP
    go_wp2_with fail
    obtain ⟨y0, hV1, hV2⟩ := HF.out _ rfl
    generalize (w5.setCell ⟨w.heap.size + 2, 0, none⟩ (.slice (some ⟨g5, 0, none⟩) (T.put key n).n c5)) = V at y0 hV1 hV2 ⊢
    exact bodyPost_ret (v := .tuple #[tabV g5 (T.put key n).n c5, .bool false]) (by simp [results, Try.results24, go_sem, y0]) rfl ⟨g5, c5, by rw [HAT.out, HDT.out], hV1, by rw [HAT.out]; exact hV2, .inr HG.out⟩
end Go.Proofs.Ytdolljjfikfhpaa
