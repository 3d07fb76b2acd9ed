/- The document's own table: New, Put. -/
import Derived.Test.YtdolljjfikfhpaaHxW
import Derived.Laws.MakeOwn
namespace Go.Proofs.Ytdolljjfikfhpaa
open Go Go.RowKit Go.Deep

theorem one_heap {w1 : World} {g : Nat} {t : TypeId} {a0 : Value} (hB : w1.heap[g]? = some (.cells #[a0] t (0, 0))) (b0 : Value) :
    (w1.setCell ⟨g, 0, none⟩ b0).heap[g]? = some (.cells #[b0] t (0, 0)) ∧ Only [g] w1 (w1.setCell ⟨g, 0, none⟩ b0) :=
  ⟨by simp [World.setCell, Array.getElem?_modify, hB], (Only.refl [g] w1).setCell (by simp) _⟩
theorem RefT.only {S : List Nat} {w w' : World} {T : Tb} {g : Nat} (h : RefT w T g) (ho : Only S w w') (hg : g ∉ S) : RefT w' T g :=
  ⟨Nat.lt_of_lt_of_le h.lt ho.size, fun i hi => by
    obtain ⟨q0, q1, q2⟩ := h.sl i hi
    have e := fun (j : Nat) => World.cell?_of_block (w := w) (w' := w') (a := ⟨g, j, none⟩) (ho.block g h.lt hg)
    exact ⟨(e _).trans q0, (e _).trans q1, (e _).trans q2⟩⟩

theorem make_tab (n : Nat) (hn : n ≤ 1000000000) (w : World) :
    ∃ cs : Array Value, (Instr.makeSlice 25 (.int .i64 n) (.int .i64 n)).run Try.prog w = .ok (.slice (some ⟨w.heap.size, 0, none⟩) n n) (w.alloc (.cells cs 34)) ∧
      cs.size = n * 3 ∧ ∀ p, p < cs.size → cs[p]? = some (slV (fun _ => Sl.no) p) := by
  have hinfo : (Try.prog.info? 34).map (fun i => (i.zero, i.size, i.bytes)) = some (some (.agg #[.int .u64 0, .int .i32 0, .bool false]), 3, 16) := by kernel_rfl
  obtain ⟨i, hi, hz0, hz1, hz2⟩ := info_parts hinfo
  have hr := run_make (P := Try.prog) w 25 34 i _ (by kernel_rfl) hi hz0 .i64 .i64 n n (by omega) (by omega) (by rw [hz2]; omega) (by omega)
  refine ⟨_, by simpa using hr, ?_⟩
  rw [hz1]
  refine ⟨size_madeCells _ _, fun p hp => ?_⟩
  rw [size_madeCells] at hp
  have hp3 : p % 3 < 3 := Nat.mod_lt _ (by decide)
  simp only [madeCells, Value.cells, Array.getElem?_map]
  rw [Array.getElem?_range, if_pos hp]
  simp only [Option.map_some, Option.some.injEq, slV]
  generalize p % 3 = j at hp3
  match j, hp3 with
  | 0, _ => rfl
  | 1, _ => rfl
  | 2, _ => rfl
theorem tabRow_new {w : World} {g m : Nat} {cs : Array Value} (hb : w.heap[g]? = some (.cells cs 34 (0, 0))) (hsz : cs.size = m * 3) (hcs : ∀ p, p < cs.size → cs[p]? = some (slV (fun _ => Sl.no) p)) : TabRow w g m (fun _ => Sl.no) :=
  ⟨_, _, head_row hb, by omega, fun p hp => by
    have := hcs p (by omega)
    simp [Array.getD_eq_getD_getElem?, this]⟩
theorem good_sz {n : Nat} (hp : ∃ p, n = 2 ^ p) (hn : n ≤ 1000000000) : isSz n = true := by
  obtain ⟨p, rfl⟩ := hp
  refine isSz_yes (k := p) ?_ (by simp)
  rcases Nat.lt_or_ge p 31 with h | h
  · exact h
  · have : 2 ^ 31 ≤ 2 ^ p := Nat.pow_le_pow_right (by decide) h
    omega

theorem rnewtab_walk (w : World) :
    Calls Try.prog 23 #[] w (TabPost w Tb.new id) := by
  obtain ⟨cs, hmk, hsz, hcs⟩ := make_tab 8 (by omega) (w.alloc (.cells #[.slice none 0 0] 27))
  have e8 : ((8 : Nat) : Int) = 8 := rfl
  have ez : (w.alloc (.cells #[.slice none 0 0] 27)).heap.size = w.heap.size + 1 := by simp
  rw [e8, ez] at hmk
  obtain ⟨X, hX⟩ : ∃ X, X = (w.alloc (.cells #[.slice (some ⟨w.heap.size + 1, 0, none⟩) 8 8] 27)) := ⟨_, rfl⟩
  have hXz : X.heap.size = w.heap.size + 1 := by rw [hX]; simp
  have hXb : Below w.heap.size w X := hX ▸ (Below.refl w.heap.size w).alloc (Nat.le_refl _) _
  have k1 := heap_alloc_new X (.cells cs 34)
  rw [hXz] at k1
  have hbW := hXb.alloc (by omega) (.cells cs 34)
  have htr := TabRow.ref (T := Tb.new) (tabRow_new (m := 8) k1 hsz hcs)
  rw [hX] at hbW htr
  have HTR := Lib.hid htr
  have HB := Lib.hid hbW
  clear hsz hcs k1 hbW htr hX hXz hXb
  go_enter Try.func23, Try.ntmps23
  go_wp2_with fail
  exact bodyPost_ret (v := tabV (w.heap.size + 1) 8 8) (by simp [results, Try.results23, go_sem]) rfl ⟨w.heap.size + 1, 8, rfl, HB.out, HTR.out, by omega⟩

theorem Tb.growUp_n (T : Tb) : ∀ m, (T.growUp m).n = 2 * T.n
  | 0 => rfl
  | m + 1 => by
    unfold Tb.growUp
    split
    · rw [Tb.lay_n]; exact T.growUp_n m
    · exact T.growUp_n m
end Go.Proofs.Ytdolljjfikfhpaa
