/- The document's own lists: New. -/
import Derived.Test.YtlmcodmglcmmoaaRef
import Derived.Test.YtlmcodmglcmmoaaLsN
namespace Go.Proofs.Ytlmcodmglcmmoaa
open Go Go.RowKit Go.Deep

theorem make_rows (n : Nat) (hn : n ≤ 1000000000) (w : World) :
    (Instr.makeSlice 30 (.int .i64 n) (.int .i64 n)).run Try.prog w = .ok (.slice (some ⟨w.heap.size, 0, none⟩) n n) (w.alloc (.cells (madeCells #[.slice none 0 0] n) 26)) := by
  have hinfo : (Try.prog.info? 26).map (fun i => (i.zero, i.size, i.bytes)) = some (some (.slice none 0 0), 1, 24) := by kernel_rfl
  obtain ⟨i, hi, hz0, hz1, hz2⟩ := info_parts hinfo
  have hr := run_make (P := Try.prog) w 30 26 i _ (by kernel_rfl) hi hz0 .i64 .i64 n n (by omega) (by omega) (by rw [hz2]; omega) (by omega)
  rw [hz1, Nat.mul_one] at hr
  simpa [Value.cells] using hr
abbrev refLs (a0 a1 : Int) (F : Option Addr) (k c nb m nc : Nat) (O : Option Addr) (n oc : Nat) : Value := .agg #[.int .i64 a0, .int .i64 a1, .slice F k c, .slice (some ⟨nb, 0, none⟩) m nc, .slice O n oc]
theorem rlnew_ends (w : World) (o1 o2 : Obj) (n : Nat) : Below w.heap.size w (((w.alloc o1).alloc o2).alloc (.cells (madeCells #[.slice none 0 0] n) 26)).drew ∧ w.heap.size ≤ w.heap.size + 1 + 1 ∧
    (((w.alloc o1).alloc o2).alloc (.cells (madeCells #[.slice none 0 0] n) 26)).drew.rowIs (w.heap.size + 1 + 1) 26 n (fun _ => .slice none 0 0) := by
  refine ⟨((((Below.refl _ _).alloc (Nat.le_refl _) _).alloc (by simp) _).alloc (by simp; omega) _).drew, by omega, ?_⟩
  have hr2 := World.rowIs_made ((w.alloc o1).alloc o2) (.slice none 0 0) n 26
  rw [World.size_alloc, World.size_alloc] at hr2
  exact hr2.drew

theorem rlnew_walk (w : World) (a0 a1 : Int) (F : Option Addr) (k c nb m nc : Nat) (tags : Int) :
    Calls Try.prog 16 #[.agg #[.int .i64 a0, .int .i64 a1, .slice F k c, .slice (some ⟨nb, 0, none⟩) m nc], .int .i64 tags] w fun e w' => ∃ o, e = .returned (refLs a0 a1 F k c nb m nc (some ⟨o, 0, none⟩) (numT tags) (numT tags)) ∧
      Below w.heap.size w w' ∧ w.heap.size ≤ o ∧ w'.rowIs o 26 (numT tags) (fun _ => .slice none 0 0) := by
  unfold numT
  by_cases h1 : tags < 1
  · rw [if_pos h1]
    have hmk : ∀ w : World, (Instr.makeSlice 30 (.int .i64 1) (.int .i64 1)).run Try.prog w = .ok (.slice (some ⟨w.heap.size, 0, none⟩) 1 1) (w.alloc (.cells (madeCells #[.slice none 0 0] 1) 26)) := make_rows 1 (by omega)
    go_enter Try.func16, Try.ntmps16
    go_wp2
    go_region
    go_wp2
    exact bodyPost_ret (v := refLs a0 a1 F k c nb m nc (some ⟨w.heap.size + 1 + 1, 0, none⟩) 1 1) (by simp [results, Try.results16, go_sem]) rfl ⟨_, rfl, rlnew_ends _ _ _ _⟩
  · rw [if_neg h1]
    by_cases h8 : 8 < tags
    · rw [if_pos h8]
      have hmk : ∀ w : World, (Instr.makeSlice 30 (.int .i64 8) (.int .i64 8)).run Try.prog w = .ok (.slice (some ⟨w.heap.size, 0, none⟩) 8 8) (w.alloc (.cells (madeCells #[.slice none 0 0] 8) 26)) := make_rows 8 (by omega)
      go_enter Try.func16, Try.ntmps16
      go_wp2
      go_region
      go_wp2
      exact bodyPost_ret (v := refLs a0 a1 F k c nb m nc (some ⟨w.heap.size + 1 + 1, 0, none⟩) 8 8) (by simp [results, Try.results16, go_sem]) rfl ⟨_, rfl, rlnew_ends _ _ _ _⟩
    · rw [if_neg h8]
      obtain ⟨n, rfl⟩ : ∃ n : Nat, tags = n := ⟨tags.toNat, by omega⟩
      have e : ((n : Int)).toNat = n := by omega
      rw [e]
      have hmk := make_rows n (by omega)
      have g1 : (1 : Int) ≤ (n : Int) := by omega
      have g2 : (n : Int) ≤ 8 := by omega
      clear e
      go_enter Try.func16, Try.ntmps16
      go_wp2
      go_region
      go_wp2
      exact bodyPost_ret (v := refLs a0 a1 F k c nb m nc (some ⟨w.heap.size + 1 + 1, 0, none⟩) n n) (by simp [results, Try.results16, go_sem]) rfl ⟨_, rfl, rlnew_ends _ _ _ _⟩
end Go.Proofs.Ytlmcodmglcmmoaa
