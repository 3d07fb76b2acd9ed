/- The document's own table: to lay a slot's key. -/
import Derived.Test.YtdolljjfikfhpaaHxR
import Derived.Test.YtdolljjfikfhpaaAppS
import Derived.Deep.DeepCutAuto
namespace Go.Proofs.Ytdolljjfikfhpaa
open Go Go.RowKit Go.Deep

def slotW (s : Sl) (j : Nat) : Value := match j with
  | 0 => .int .u64 (s.key : Nat)
  | 1 => .int .i32 s.n
  | _ => .bool s.full
def slV (sl : Nat → Sl) (p : Nat) : Value := slotW (sl (p / 3)) (p % 3)
theorem slV_at (sl : Nat → Sl) (i j : Nat) (hj : j < 3) : slV sl (i * 3 + j) = slotW (sl i) j := by
  unfold slV
  rw [show (i * 3 + j) / 3 = i by omega, show (i * 3 + j) % 3 = j by omega]
theorem split3 (p i : Nat) : p / 3 ≠ i ∨ p = i * 3 ∨ p = i * 3 + 1 ∨ p = i * 3 + 2 := by omega
theorem RefT.cell {w : World} {T : Tb} {g : Nat} (h : RefT w T g) (p : Nat) (hp : p < T.n * 3) : w.cell? ⟨g, p, none⟩ = some (slV T.sl p) := by
  obtain ⟨h0, h1, h2⟩ := h.sl (p / 3) (by omega)
  have e : p = p / 3 * 3 + p % 3 := by omega
  have hm : p % 3 < 3 := Nat.mod_lt _ (by decide)
  unfold slV
  generalize p / 3 = i at e h0 h1 h2
  generalize p % 3 = j at e hm
  subst e
  match j, hm with
  | 0, _ => exact h0
  | 1, _ => exact h1
  | 2, _ => exact h2
theorem RefT.src {w : World} {T : Tb} {g c : Nat} (h : RefT w T g) :
    (some (⟨g, 0, none⟩ : Addr) = none ∧ T.n = 0 ∧ c = 0 ∧ (List.range (T.n * 3)).map (slV T.sl) = []) ∨ ∃ ad, some (⟨g, 0, none⟩ : Addr) = some ad ∧ ((List.range (T.n * 3)).map (slV T.sl)).length = T.n * 3 ∧ ∀ j u, ((List.range (T.n * 3)).map (slV T.sl))[j]? = some u → w.cell? (ad.add j) = some u := by
  refine .inr ⟨_, rfl, by simp, fun j u hu => ?_⟩
  rw [List.getElem?_map] at hu
  rcases Nat.lt_or_ge j (T.n * 3) with hj | hj
  · rw [List.getElem?_range hj] at hu
    simp only [Option.map_some, Option.some.injEq] at hu
    subst hu
    have := h.cell j hj
    simpa [Addr.add_lit] using this
  · rw [List.getElem?_eq_none (by simpa using hj)] at hu; cases hu
theorem oneCell_sl (sl : Nat → Sl) (p : Nat) : (slV sl p).oneCell' = true := by
  unfold slV
  generalize p % 3 = j
  unfold slotW
  split <;> rfl

/- A row of slots of the call's own, one of them laid anew. -/
def TabRow (w : World) (g m : Nat) (sl : Nat → Sl) : Prop := ∃ (N : Nat) (F : Nat → Value), w.rowIs g 34 N F ∧ m * 3 ≤ N ∧ ∀ p, p < m * 3 → F p = slV sl p
theorem tabRow_put {w : World} {g m : Nat} {sl : Nat → Sl} (h : TabRow w g m sl) (i : Nat) (s : Sl) :
    TabRow (((w.setCell ⟨g, i * 3, none⟩ (.int .u64 (s.key : Nat))).setCell ⟨g, i * 3 + 1, none⟩ (.int .i32 s.n)).setCell ⟨g, i * 3 + 2, none⟩ (.bool s.full)) g m (fun j => if j = i then s else sl j) ∧
    Only [g] w (((w.setCell ⟨g, i * 3, none⟩ (.int .u64 (s.key : Nat))).setCell ⟨g, i * 3 + 1, none⟩ (.int .i32 s.n)).setCell ⟨g, i * 3 + 2, none⟩ (.bool s.full)) := by
  obtain ⟨N, F, hF, hN, hv⟩ := h
  refine ⟨⟨N, _, ((hF.set _ _).set _ _).set _ _, hN, fun p hp => ?_⟩, ((((Only.refl [g] w).setCell (by simp) _).setCell (by simp) _).setCell (by simp) _)⟩
  have key : ∀ j, j < 3 → slV (fun j => if j = i then s else sl j) (i * 3 + j) = slotW s j := fun j hj => by rw [slV_at _ _ _ hj, if_pos rfl]
  rcases split3 p i with h1 | rfl | rfl | rfl
  · have e : slV (fun j => if j = i then s else sl j) p = slV sl p := by unfold slV; show slotW (if p / 3 = i then s else sl (p / 3)) (p % 3) = _; rw [if_neg h1]
    rw [e, ← hv p hp]
    rw [if_neg (by omega), if_neg (by omega), if_neg (by omega)]
  · rw [show i * 3 = i * 3 + 0 from rfl, key 0 (by decide)]; simp [slotW]
  · rw [key 1 (by decide)]; simp [slotW]
  · rw [key 2 (by decide)]; simp [slotW]
theorem tabRow_own {w : World} {B m cap g : Nat} {sl : Nat → Sl} {l : List Value} (h : w.ownsRow B 34 3 (.slice (some ⟨g, 0, none⟩) m cap) m l) (hl : ∀ p, p < m * 3 → l[p]? = some (slV sl p)) : TabRow w g m sl := by
  rcases h.2 with ⟨e, _⟩ | ⟨g', cap', cur, e, _, hb, hle, _, hsz, htk⟩
  · cases e
  · injection e with e1 _ e3
    injection e1 with e1
    injection e1 with e1
    subst e1 e3
    refine ⟨_, _, head_row hb, by rw [hsz]; exact Nat.mul_le_mul_right 3 hle, fun p hp => ?_⟩
    have h1 := hl p hp
    rw [← htk, List.getElem?_take, if_pos hp, Array.getElem?_toList] at h1
    simp [Array.getD_eq_getD_getElem?, h1]
theorem TabRow.only {S : List Nat} {w w' : World} {g m : Nat} {sl : Nat → Sl} (h : TabRow w g m sl) (ho : Only S w w') (hg : g ∉ S) : TabRow w' g m sl := by
  obtain ⟨N, F, hF, hN, hv⟩ := h
  exact ⟨N, F, ho.row hF hg, hN, hv⟩
theorem TabRow.cell {w : World} {g m : Nat} {sl : Nat → Sl} (h : TabRow w g m sl) (p : Nat) (hp : p < m * 3) : w.cell? ⟨g, p, none⟩ = some (slV sl p) ∧ w.frozen? ⟨g, p, none⟩ = false := by
  obtain ⟨N, F, hF, hN, hv⟩ := h
  rw [← hv p hp]
  exact ⟨hF.cell (by omega), hF.frozen p⟩
theorem TabRow.lt {w : World} {g m : Nat} {sl : Nat → Sl} (h : TabRow w g m sl) : g < w.heap.size := by obtain ⟨N, F, hF, _⟩ := h; exact hF.lt
theorem TabRow.ref {w : World} {g : Nat} {T : Tb} (h : TabRow w g T.n T.sl) : RefT w T g :=
  ⟨h.lt, fun i hi => ⟨by have := (h.cell (i * 3 + 0) (by omega)).1; rw [slV_at _ _ _ (by decide)] at this; exact this, by have := (h.cell (i * 3 + 1) (by omega)).1; rw [slV_at _ _ _ (by decide)] at this; exact this, by have := (h.cell (i * 3 + 2) (by omega)).1; rw [slV_at _ _ _ (by decide)] at this; exact this⟩⟩

theorem one_set {w1 : World} {g : Nat} {t : TypeId} {a0 : Value} (hB : w1.heap[g]? = some (.cells #[a0] t (0, 0))) (b0 : Value) :
    (w1.setCell ⟨g, 0, none⟩ b0).cell? ⟨g, 0, none⟩ = some b0 ∧ Only [g] w1 (w1.setCell ⟨g, 0, none⟩ b0) := by
  refine ⟨?_, (Only.refl [g] w1).setCell (by simp) _⟩
  have h := (head_row hB).set 0 b0
  have := h.cell (i := 0) (by simp)
  simpa using this

/- A table, as a call hands it back. -/
def TabPost (w : World) (T : Tb) (f : Value → Value) (e : Ending) (w' : World) : Prop := ∃ g c, e = .returned (f (tabV g T.n c)) ∧ Below w.heap.size w w' ∧ RefT w' T g ∧ w.heap.size ≤ g

set_option maxHeartbeats 1000000 in
theorem rlay_walk {w : World} {T : Tb} {g : Nat} (h : RefT w T g) (ok : T.Ok) (hs : isSz T.n = true) (hn : T.n ≤ 1000000) (c : Nat) (s : Sl) (hk : s.key < 18446744073709551616) :
    Calls Try.prog 43 #[tabV g T.n c, .agg #[.int .u64 (s.key : Nat), .int .i32 s.n, .bool s.full]] w (TabPost w (T.lay s) id) := by
  have hp := ok.pos
  obtain ⟨_, hsz⟩ := isSz_bounds hs
  have hlk := ok.look_lt s.key
  have HL := Lib.hid (fun w' (hb : Below w.heap.size w w') => rlook_walk (h.below hb) ok hs s.key c hk)
  have HR := Lib.hid h
  have hb3 := (((Below.refl w.heap.size w).alloc (Nat.le_refl _) (.cells #[.slice (some ⟨g, 0, none⟩) T.n c] 27)).alloc (by simp) (.cells #[.int .u64 (s.key : Nat), .int .i32 s.n, .bool s.full] 34)).alloc (by simp; omega) (.cells #[.slice none 0 0] 27)
  have HB3 := Lib.hid hb3
  have HT : Hid ((T.lay s).n = T.n ∧ (T.lay s).sl = fun j => if j = T.look s.key then s else T.sl j) := Lib.hid ⟨rfl, rfl⟩
  clear h hs ok hb3
  obtain ⟨lk, hlkE⟩ : ∃ lk, T.look s.key = lk := ⟨_, rfl⟩
  rw [hlkE] at hlk HL HT
  clear hlkE
  go_enter Try.func43, Try.ntmps43
  go_wp2_with fail
  refine (HL.out _ HB3.out).mono ?_
  rintro e w1 ⟨rfl, hb⟩
  obtain ⟨hb1, hs1, hB0, hB1, hB2⟩ := three_blocks hb
  have c0 : w1.cell? ⟨w.heap.size, 0, none⟩ = some (.slice (some ⟨g, 0, none⟩) T.n c) := (head_row hB0).cell (i := 0) (by simp)
  have hs0 : w.heap.size < w1.heap.size := by omega
  have HB := Lib.hid hb1
  have hal := (Below.refl w1.heap.size w1).alloc (Nat.le_refl _) (.cells #[] 34)
  have HS := Lib.hid (RefT.src (c := c) (HR.out.below (hb1.trans (hal.mono hb1.size))))
  have hown := World.ownsRow_lit (base := w1.heap.size) (e := 34) (size := 3) w1 #[] 0 (Nat.le_refl _) (by unfold maxLen; omega) rfl
  have HO := Lib.hid hown
  have HAL := Lib.hid hal
  have h0s : Hid (∀ u ∈ (List.range (T.n * 3)).map (slV T.sl), u.oneCell' = true) := Lib.hid (by simp; exact fun _ _ => oneCell_sl _ _)
  clear hb hb1 hal hown
  go_wp2_with (at_builtin; refine wpList_append_src rfl (.tmp 15) (.tmp 17) 25 rfl w1.heap.size 34 (.agg #[.int .u64 0, .int .i32 0, .bool false]) 3 16 (by kernel_rfl) (by kernel_rfl) rfl (by decide) _ 0 _ rfl HO.out (some ⟨g, 0, none⟩) T.n c ((List.range (T.n * 3)).map (slV T.sl)) rfl HS.out h0s.out (by omega) (by omega) (by simp) ?_)
  intro v2 w2 hown2 hgrow2
  have hbl2 := below_grown HAL.out HO.out hgrow2 (by simp)
  have hs2 := hbl2.size
  obtain ⟨g2, cap, rfl, hg1, hg2⟩ : ∃ g2 cap, v2 = .slice (some ⟨g2, 0, none⟩) T.n cap ∧ w1.heap.size ≤ g2 ∧ g2 < w2.heap.size := by
    rcases hown2.2 with ⟨_, e⟩ | ⟨g2, cap, cur, e, hg1, hb, _⟩
    · omega
    · exact ⟨g2, cap, e.trans (by congr 1), hg1, (head_row hb).lt⟩
  have hrow := tabRow_own (sl := T.sl) hown2 (fun p hp => by rw [List.getElem?_map, List.getElem?_range hp]; rfl)
  have k1 : w2.heap[w.heap.size + 1]? = _ := (hbl2.block (w.heap.size + 1) (by omega)).trans hB1
  have k2 : w2.heap[w.heap.size + 2]? = _ := (hbl2.block (w.heap.size + 2) hs1).trans hB2
  have HW := Lib.hid (tabRow_put hrow lk s)
  have HBL2 := Lib.hid hbl2
  obtain ⟨q0, p0⟩ := hrow.cell (lk * 3) (by omega)
  obtain ⟨q1, p1⟩ := hrow.cell (lk * 3 + 1) (by omega)
  obtain ⟨q2, p2⟩ := hrow.cell (lk * 3 + 2) (by omega)
  have b0 : w2.cell? ⟨w.heap.size + 1, 0, none⟩ = some (.int .u64 (s.key : Nat)) := (head_row k1).cell (i := 0) (by simp)
  have b1 : w2.cell? ⟨w.heap.size + 1, 1, none⟩ = some (.int .i32 s.n) := (head_row k1).cell (i := 1) (by simp)
  have b2 : w2.cell? ⟨w.heap.size + 1, 2, none⟩ = some (.bool s.full) := (head_row k1).cell (i := 2) (by simp)
  have HK2 := Lib.hid k2
  clear hown2 hgrow2 hbl2 HS HO HAL hrow k1 k2 hB0 hB1 hB2 c0
  go_upto_region 4 with fail
  have hw := HW.out
  generalize (((w2.setCell ⟨g2, lk * 3, none⟩ (.int .u64 (s.key : Nat))).setCell ⟨g2, lk * 3 + 1, none⟩ (.int .i32 s.n)).setCell ⟨g2, lk * 3 + 2, none⟩ (.bool s.full)) = W at hw ⊢
  clear q0 q1 q2 p0 p1 p2 b0 b1 b2 HW
  have k2 : W.heap[w.heap.size + 2]? = _ := (hw.2.block (w.heap.size + 2) (by omega) (by simp; omega)).trans HK2.out
  have z0 : W.frozen? ⟨w.heap.size + 2, 0, none⟩ = false := (head_row k2).frozen 0
  have x0 : W.cell? ⟨w.heap.size + 2, 0, none⟩ = some (.slice none 0 0) := (head_row k2).cell (i := 0) (by simp)
  have HS1 := Lib.hid (one_set k2 (.slice (some ⟨g2, 0, none⟩) T.n cap))
  have hsW := hw.2.size
  have HRW := Lib.hid hw.1
  have HON := Lib.hid hw.2
  clear hw k2
  go_wp2_with fail
  have h1 := HS1.out
  generalize W.setCell ⟨w.heap.size + 2, 0, none⟩ (.slice (some ⟨g2, 0, none⟩) T.n cap) = W2 at h1 ⊢
  clear x0 z0
  obtain ⟨y0, h1⟩ := h1
  have hb2 : Below w.heap.size w w2 := HB.out.trans (HBL2.out.mono (by omega))
  have hbW : Below w.heap.size w W := hb2.trans (HON.out.below (by simp; omega) (by omega))
  have hbW2 : Below w.heap.size w W2 := hbW.trans (h1.below (by simp) (by omega))
  refine bodyPost_ret (v := tabV g2 T.n cap) (by simp [results, Try.results43, go_sem, y0]) rfl ⟨g2, cap, rfl, hbW2, ?_, by omega⟩
  have hrow := HRW.out.only h1 (by simp; omega)
  rw [← HT.out.2] at hrow
  exact TabRow.ref (T := T.lay s) hrow
end Go.Proofs.Ytdolljjfikfhpaa
