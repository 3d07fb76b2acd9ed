/- Package ilist: New. -/
import Derived.Test.YtlmcodmglcmmoaaLsM
namespace Go.Proofs.Ytlmcodmglcmmoaa
open Go Go.RowKit Go.Deep

theorem make_ends (n : Nat) (hn : n ≤ 1000000000) (w : World) :
    ∃ cs : Array Value, (Instr.makeSlice 82 (.int .i64 n) (.int .i64 n)).run Try.prog w = .ok (.slice (some ⟨w.heap.size, 0, none⟩) n n) (w.alloc (.cells cs 87)) ∧
      cs.size = n * 3 ∧ ∀ p, p < cs.size → cs[p]? = some (enV (fun _ => ⟨0, 0, 0⟩) p) := by
  have hinfo : (Try.prog.info? 87).map (fun i => (i.zero, i.size, i.bytes)) = some (some (.agg #[.int .i32 0, .int .i32 0, .int .i64 0]), 3, 16) := by kernel_rfl
  obtain ⟨i, hi, hz0, hz1, hz2⟩ := info_parts hinfo
  have hr := run_make (P := Try.prog) w 82 87 i _ (by kernel_rfl) hi hz0 .i64 .i64 n n (by omega) (by omega) (by rw [hz2]; omega) (by omega)
  refine ⟨_, by simpa using hr, ?_⟩
  rw [hz1]
  refine ⟨size_madeCells _ _, fun p hp => ?_⟩
  rw [size_madeCells] at hp
  have hp7 : p % 3 < 3 := Nat.mod_lt _ (by decide)
  simp only [madeCells, Value.cells, Array.getElem?_map]
  rw [Array.getElem?_range, if_pos hp]
  simp only [Option.map_some, Option.some.injEq, enV]
  generalize p % 3 = j at hp7
  match j, hp7 with
  | 0, _ => rfl
  | 1, _ => rfl
  | 2, _ => rfl

def numT (tags : Int) : Nat := if tags < 1 then 1 else if 8 < tags then 8 else tags.toNat
theorem numT_bounds (tags : Int) : 1 ≤ numT tags ∧ numT tags ≤ 8 := by
  unfold numT
  split
  · omega
  · split <;> omega
section
variable {w0 w : World} {b : Nat} {A : St} {K : List Nat}
theorem new_ends_l (h : Held w0 w b A K) (hs : A.n ≤ 1000000) (hz : ∀ j, j ≠ 0 → (A.node j).tag = 0 ∧ (A.node j).prev = 0 ∧ (A.node j).next = 0) (n : Nat) (h1 : 1 ≤ n) (h8 : n ≤ 8) {cs : Array Value} (hc : cs.size = n * 3) (hcs : ∀ p, p < cs.size → cs[p]? = some (enV (fun _ => ⟨0, 0, 0⟩) p)) :
    HL w0 ((w.alloc (.cells cs 87)).alloc (.cells (lsCells b w.heap.size n) 84)) (w.heap.size + 1) b n (fun _ => []) A K ∧ Kept K w ((w.alloc (.cells cs 87)).alloc (.cells (lsCells b w.heap.size n) 84)) := by
  have hb : Below w.heap.size w ((w.alloc (.cells cs 87)).alloc (.cells (lsCells b w.heap.size n) 84)) := ((Below.refl _ _).alloc (Nat.le_refl _) _).alloc (by simp) _
  have hsz := h.below.size
  have hw2 : ((w.alloc (.cells cs 87)).alloc (.cells (lsCells b w.heap.size n) 84)).heap.size = w.heap.size + 2 := by simp
  have hrow := World.rowIs_alloc w cs 87 _ hcs
  rw [hc] at hrow
  have hl := heap_alloc_new (w.alloc (.cells cs 87)) (.cells (lsCells b w.heap.size n) 84)
  rw [World.size_alloc] at hl
  refine ⟨⟨⟨A, n, fun _ => ⟨0, 0, 0⟩⟩, ⟨hs, h1, h8, w.heap.size, ?_, by omega, hsz, by omega, ?_, ?_, hl, hrow.alloc _⟩, ?_, rfl, Alike.refl A⟩, (h.still hb).2⟩
  · refine h.other hb (fun k hk => ?_)
    rw [hw2]
    rcases List.mem_cons.1 hk with rfl | hk
    · exact ⟨.inr (by omega), by omega⟩
    · rcases List.mem_cons.1 hk with rfl | hk
      · exact ⟨.inr (Nat.le_refl _), by omega⟩
      · exact ⟨.inl hk, by have := h.old k hk; omega⟩
  · intro hk; have := h.old _ hk; omega
  · intro hk; have := h.old _ hk; omega
  · exact ⟨fun t _ i hi => by simp at hi, fun _ _ => List.nodup_nil, fun t _ i hi => by simp at hi, fun i hi _ => hz i hi, fun t _ => ⟨rfl, rfl⟩, fun _ _ => rfl⟩

theorem ilnew_walk (h : Held w0 w b A K) (hs : A.n ≤ 1000000) (hz : ∀ j, j ≠ 0 → (A.node j).tag = 0 ∧ (A.node j).prev = 0 ∧ (A.node j).next = 0) (tags : Int) :
    Calls Try.prog 15 #[.pointer (some ⟨b, 0, none⟩), .int .i64 tags] w fun e w' => e = .returned (.pointer (some ⟨w.heap.size + 1, 0, none⟩)) ∧ HL w0 w' (w.heap.size + 1) b (numT tags) (fun _ => []) A K ∧ Kept K w w' := by
  unfold numT
  by_cases h1 : tags < 1
  · rw [if_pos h1]
    obtain ⟨cs, hmk, hsz, hcs⟩ := make_ends 1 (by omega) w
    have hmk' : (Instr.makeSlice 82 (.int .i64 1) (.int .i64 1)).run Try.prog w = .ok (.slice (some ⟨w.heap.size, 0, none⟩) 1 1) (w.alloc (.cells cs 87)) := hmk
    clear hmk
    have HE := Lib.hid (new_ends_l h hs hz 1 (by omega) (by omega) hsz hcs)
    clear h hs hz hcs hsz
    go_enter Try.func15, Try.ntmps15
    go_wp2
    go_ret
    exact ⟨rfl, HE.out⟩
  · rw [if_neg h1]
    by_cases h8 : 8 < tags
    · rw [if_pos h8]
      obtain ⟨cs, hmk, hsz, hcs⟩ := make_ends 8 (by omega) w
      have hmk' : (Instr.makeSlice 82 (.int .i64 8) (.int .i64 8)).run Try.prog w = .ok (.slice (some ⟨w.heap.size, 0, none⟩) 8 8) (w.alloc (.cells cs 87)) := hmk
      clear hmk
      have HE := Lib.hid (new_ends_l h hs hz 8 (by omega) (by omega) hsz hcs)
      clear h hs hz hcs hsz
      go_enter Try.func15, Try.ntmps15
      go_wp2
      go_ret
      exact ⟨rfl, HE.out⟩
    · rw [if_neg h8]
      obtain ⟨n, rfl⟩ : ∃ n : Nat, tags = n := ⟨tags.toNat, by omega⟩
      have e : ((n : Int)).toNat = n := by omega
      rw [e]
      obtain ⟨cs, hmk, hsz, hcs⟩ := make_ends n (by omega) w
      have HE := Lib.hid (new_ends_l h hs hz n (by omega) (by omega) hsz hcs)
      have g1 : (1 : Int) ≤ (n : Int) := by omega
      have g2 : (n : Int) ≤ 8 := by omega
      clear h hs hz hcs hsz e
      go_enter Try.func15, Try.ntmps15
      go_wp2
      go_ret
      exact ⟨rfl, HE.out⟩
end
end Go.Proofs.Ytlmcodmglcmmoaa
