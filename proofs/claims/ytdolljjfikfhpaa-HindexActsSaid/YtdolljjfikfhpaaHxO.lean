/- The document's own table: Delete, up to where what lay behind is laid anew. -/
import Derived.Test.YtdolljjfikfhpaaHxQ
import Derived.Test.YtdolljjfikfhpaaHxB
namespace Go.Proofs.Ytdolljjfikfhpaa
open Go Go.RowKit Go.Deep

theorem ownsRow_block {w w' : World} {B : Nat} {e : TypeId} {size n : Nat} {v : Value} {xs : List Value} (h : w.ownsRow B e size v n xs) (hk : ∀ k, B ≤ k → k < w.heap.size → w'.heap[k]? = w.heap[k]?) : w'.ownsRow B e size v n xs := by
  refine ⟨h.1, ?_⟩
  rcases h.2 with q | ⟨g, cap, cur, e1, e2, e3, e4⟩
  · exact .inl q
  · exact .inr ⟨g, cap, cur, e1, e2, (hk g e2 (head_row e3).lt).trans e3, e4⟩
theorem Only.low {S : List Nat} {w0 w w' : World} (h : Only S w0 w) (hb : Below w0.heap.size w w') : Only S w0 w' :=
  ⟨hb.os.trans h.os, hb.tape.trans h.tape, hb.output.trans h.output, Nat.le_trans h.size hb.size, fun i hi hS => (hb.block i hi).trans (h.block i hi hS)⟩
theorem TabRow.low {w w' : World} {B g m : Nat} {sl : Nat → Sl} (h : TabRow w g m sl) (hb : Below B w w') (hg : g < B) : TabRow w' g m sl := by
  obtain ⟨N, F, hF, hN, hv⟩ := h
  exact ⟨N, F, hF.of_block (hb.block g hg), hN, hv⟩

/- What lies behind slot a, in turn. -/
def Tb.outS (T : Tb) (a : Nat) (j : Nat) : Sl := T.sl ((a + 1 + j) % T.n)
def slL (sl : Nat → Sl) (m : Nat) : List Value := (List.range (m * 3)).map (slV sl)
theorem slL_succ (sl : Nat → Sl) (m : Nat) : slL sl m ++ [.int .u64 ((sl m).key : Nat), .int .i32 (sl m).n, .bool (sl m).full] = slL sl (m + 1) := by
  unfold slL
  rw [show (m + 1) * 3 = m * 3 + 1 + 1 + 1 by omega, List.range_succ, List.range_succ, List.range_succ]
  simp only [List.map_append, List.map_cons, List.map_nil, List.append_assoc]
  rw [show m * 3 + 1 + 1 = m * 3 + 2 by omega, slV_at _ _ _ (by decide), slV_at _ _ _ (by decide), show slV sl (m * 3) = slotW (sl m) 0 from slV_at sl m 0 (by decide)]
  rfl
theorem slL_at (sl : Nat → Sl) (m p : Nat) (hp : p < m * 3) : (slL sl m)[p]? = some (slV sl p) := by
  unfold slL
  rw [List.getElem?_map, List.getElem?_range hp]
  rfl
/- The row that grows, as Go holds it. -/
structure OutRow (w : World) (B : Nat) (v : Value) (m : Nat) (sl : Nat → Sl) : Prop where
  own : w.ownsRow B 34 3 v m (slL sl m)
theorem OutRow.form {w : World} {B m : Nat} {v : Value} {sl : Nat → Sl} (h : OutRow w B v m sl) : ∃ A c, v = .slice A m c ∧ ∀ w', (∀ k, B ≤ k → k < w.heap.size → w'.heap[k]? = w.heap[k]?) → ∀ i, i < m → ∃ g, A = some ⟨g, 0, none⟩ ∧ SlAt w' g i (sl i) := by
  rcases h.own.2 with ⟨rfl, rfl⟩ | ⟨g, cap, cur, rfl, hB, hb, hle, _, hsz, htk⟩
  · exact ⟨none, 0, rfl, fun _ _ i hi => by omega⟩
  · refine ⟨_, cap, rfl, fun w' hw' i hi => ⟨g, rfl, ?_⟩⟩
    have hb' := (hw' g hB (head_row hb).lt).trans hb
    have key : ∀ j, j < 3 → w'.cell? ⟨g, i * 3 + j, none⟩ = some (slotW (sl i) j) := fun j hj => by
      have h1 := slL_at sl m (i * 3 + j) (by omega)
      rw [slV_at _ _ _ hj] at h1
      rw [← htk, List.getElem?_take, if_pos (by omega), Array.getElem?_toList] at h1
      have hc := (head_row hb').cell (i := i * 3 + j) (by rw [hsz]; omega)
      rw [hc, Array.getD_eq_getD_getElem?, h1]
      rfl
    exact ⟨key 0 (by decide), key 1 (by decide), key 2 (by decide)⟩

/- Behind m steps of the first loop. -/
structure WipeInv (wA w : World) (g2 : Nat) (T : Tb) (a m : Nat) (v : Value) : Prop where
  only : Only [g2] wA w
  row : TabRow w g2 T.n (T.wipe a (m + 1)).sl
  out : OutRow w wA.heap.size v m (T.outS a)
theorem wipe_full {T : Tb} {a r m : Nat} (h : RunAt T a r) (hm : m ≤ r) : (T.wipe a (m + 1)).sl ((a + 1 + m) % T.n) = T.outS a m ∧ (T.outS a m).full = decide (m < r) := by
  have hr := h.short
  have e : a + 1 + m = a + (m + 1) := by omega
  refine ⟨?_, ?_⟩
  · unfold Tb.outS
    exact Tb.wipe_out a (m + 1) (fun j hj => by rw [e]; exact h.ne (by omega) (by omega) (by omega))
  · unfold Tb.outS
    rw [e]
    by_cases hc : m < r
    · rw [h.full (m + 1) (by omega), decide_eq_true hc]
    · obtain rfl : m = r := by omega
      rw [h.stop, decide_eq_false hc]
theorem wipe_step (T : Tb) (a m : Nat) : (T.wipe a (m + 1 + 1)).sl = fun j => if j = (a + 1 + m) % T.n then Sl.no else (T.wipe a (m + 1)).sl j := by
  rw [show a + 1 + m = a + (m + 1) by omega]
  rfl
theorem wipe_one (T : Tb) (a : Nat) (ha : a < T.n) : (T.wipe a (0 + 1)).sl = fun j => if j = a then Sl.no else T.sl j := by
  show (fun i => if i = (a + 0) % T.n then Sl.no else T.sl i) = _
  rw [Nat.add_zero, Nat.mod_eq_of_lt ha]
/- A store of a slot with nothing. -/
theorem WipeInv.next {wA w w2 : World} {g2 : Nat} {T : Tb} {a m : Nat} {v v2 : Value} (h : WipeInv wA w g2 T a m v) (hg : g2 < wA.heap.size) (hb : Below wA.heap.size w w2) (ho : w2.ownsRow wA.heap.size 34 3 v2 (m + 1) (slL (T.outS a) (m + 1))) :
    ∀ V, V = ((w2.setCell ⟨g2, ((a + 1 + m) % T.n) * 3, none⟩ (.int .u64 0)).setCell ⟨g2, ((a + 1 + m) % T.n) * 3 + 1, none⟩ (.int .i32 0)).setCell ⟨g2, ((a + 1 + m) % T.n) * 3 + 2, none⟩ (.bool false) → WipeInv wA V g2 T a (m + 1) v2 := by
  intro V hV
  obtain ⟨h1, h2⟩ := tabRow_put (h.row.low hb hg) ((a + 1 + m) % T.n) Sl.no
  have e : V = ((w2.setCell ⟨g2, ((a + 1 + m) % T.n) * 3, none⟩ (.int .u64 (Sl.no.key : Nat))).setCell ⟨g2, ((a + 1 + m) % T.n) * 3 + 1, none⟩ (.int .i32 Sl.no.n)).setCell ⟨g2, ((a + 1 + m) % T.n) * 3 + 2, none⟩ (.bool Sl.no.full) := hV
  rw [← e] at h1 h2
  refine ⟨(h.only.low hb).trans h2 (by simp), ?_, ⟨ownsRow_block ho (fun k hk hlt => h2.block k hlt (by simp; omega))⟩⟩
  rw [wipe_step]
  exact h1

/- Behind i steps of the second loop: the new table's cell is block U. -/
structure RelInv (wB w : World) (T : Tb) (a r lo i gu cu : Nat) : Prop where
  below : Below wB.heap.size wB w
  ref : RefT w (T.relay a r i) gu
  cell : w.heap[wB.heap.size]? = some (.cells #[.slice (some ⟨gu, 0, none⟩) T.n cu] 27 (0, 0))
  ne : gu ≠ wB.heap.size
  low : lo < gu
theorem rrelay_lay {w : World} {T : Tb} {a r gu : Nat} (gd : T.Good) (hr : RunAt T a r) (hn : T.n ≤ 100000) (i : Nat) (hi : i < r) (hkeys : T.Keys) (cu : Nat) (h : RefT w (T.relay a r i) gu) :
    Calls Try.prog 43 #[tabV gu T.n cu, .agg #[.int .u64 ((T.outS a i).key : Nat), .int .i32 (T.outS a i).n, .bool true]] w fun e w' => ∃ g c, e = .returned (tabV g T.n c) ∧ Below w.heap.size w w' ∧ RefT w' (T.relay a r (i + 1)) g ∧ w.heap.size ≤ g := by
  have g := hr.relay gd.ok i (by omega)
  have hf : (T.outS a i).full = true := (wipe_full hr (by omega)).2.trans (decide_eq_true hi)
  have hs : isSz (T.relay a r i).n = true := good_sz (by rw [g.n]; exact gd.pow) (by rw [g.n]; omega)
  have hl := rlay_walk h g.ok hs (by rw [g.n]; omega) cu (T.outS a i) (hkeys _ (Nat.mod_lt _ gd.ok.pos))
  rw [g.n, hf] at hl
  refine hl.mono ?_
  rintro e w' ⟨g6, c6, rfl, b6, r6, l6⟩
  exact ⟨g6, c6, by rw [Tb.lay_n, g.n]; rfl, b6, r6, l6⟩
end Go.Proofs.Ytdolljjfikfhpaa
