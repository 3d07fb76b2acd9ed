/- The document's own arena: New. -/
import Derived.Test.YtlmcodmglcmmoaaHeld
namespace Go.Proofs.Ytlmcodmglcmmoaa
open Go Go.RowKit Go.Deep

def refNode (x : Nd) (j : Nat) : Value :=
  match j with
  | 0 => .int .u64 x.key
  | 1 => .int .u64 x.val
  | 2 => .int .i64 x.flag
  | 3 => .int .i64 x.tag
  | 4 => .int .i32 x.prev
  | _ => .int .i32 x.next

abbrev refNew (n p : Nat) : Value := .agg #[.int .i64 n, .int .i64 0, .slice none 0 0, .slice (some ⟨p, 0, none⟩) 1 1]
def RNew (w w' : World) : Prop := Below w.heap.size w w' ∧ w'.rowIs (w.heap.size + 1) 64 6 (fun j => refNode Nd.zero j)

theorem rnew_ends {w : World} {o : Obj} : RNew w ((w.alloc o).alloc (.cells #[.int .u64 0, .int .u64 0, .int .i64 0, .int .i64 0, .int .i32 0, .int .i32 0] 64)) := by
  refine ⟨((Below.refl _ _).alloc (Nat.le_refl _) _).alloc (by simp) _, ?_⟩
  have h := World.rowIs_alloc (w.alloc o) #[.int .u64 0, .int .u64 0, .int .i64 0, .int .i64 0, .int .i32 0, .int .i32 0] 64 (fun j => refNode Nd.zero j) (fun i hi => by
    have hi6 : i < 6 := hi
    match i, hi6 with
    | 0, _ => rfl
    | 1, _ => rfl
    | 2, _ => rfl
    | 3, _ => rfl
    | 4, _ => rfl
    | 5, _ => rfl)
  have e : (w.alloc o).heap.size = w.heap.size + 1 := by simp
  rw [e] at h
  exact h

theorem rnew_least (w : World) (r : Int) (hr : r ≤ 1) :
    Calls Try.prog 17 #[.int .i64 r] w fun e w' => e = .returned (.agg #[.int .i64 2, .int .i64 0, .slice none 0 0, .slice (some ⟨w.heap.size + 1, 0, none⟩) 1 1]) ∧ RNew w w' := by
  have hmk : ∀ w : World, (Instr.makeSlice 27 (.int .i64 1) (.int .i64 1)).run Try.prog w = .ok (.slice (some ⟨w.heap.size, 0, none⟩) 1 1) (w.alloc (.cells #[.int .u64 0, .int .u64 0, .int .i64 0, .int .i64 0, .int .i32 0, .int .i32 0] 64)) := fun _ => by kernel_rfl
  by_cases h1 : r < 1
  · go_enter Try.func17, Try.ntmps17
    go_wp2
    exact bodyPost_ret (v := .agg #[.int .i64 2, .int .i64 0, .slice none 0 0, .slice (some ⟨w.heap.size + 1, 0, none⟩) 1 1]) (by simp [results, Try.results17, go_sem]) rfl ⟨rfl, rnew_ends⟩
  · obtain rfl : r = 1 := by omega
    clear hr h1
    go_enter Try.func17, Try.ntmps17
    go_wp2
    exact bodyPost_ret (v := .agg #[.int .i64 2, .int .i64 0, .slice none 0 0, .slice (some ⟨w.heap.size + 1, 0, none⟩) 1 1]) (by simp [results, Try.results17, go_sem]) rfl ⟨rfl, rnew_ends⟩
theorem rnew_more (w : World) (r : Nat) (hr : 1 < r) (hr2 : r ≤ 10000) :
    Calls Try.prog 17 #[.int .i64 r] w fun e w' => e = .returned (.agg #[.int .i64 (1 + (r : Int)), .int .i64 0, .slice none 0 0, .slice (some ⟨w.heap.size + 1, 0, none⟩) 1 1]) ∧ RNew w w' := by
  have hmk : ∀ w : World, (Instr.makeSlice 27 (.int .i64 1) (.int .i64 1)).run Try.prog w = .ok (.slice (some ⟨w.heap.size, 0, none⟩) 1 1) (w.alloc (.cells #[.int .u64 0, .int .u64 0, .int .i64 0, .int .i64 0, .int .i32 0, .int .i32 0] 64)) := fun _ => by kernel_rfl
  have h1 : (1 : Int) ≤ (r : Int) := by omega
  have h1' : ¬ ((r : Int) < 1) := by omega
  have h2 : (r : Int) ≤ 1048576 := by omega
  go_enter Try.func17, Try.ntmps17
  go_wp2
  exact bodyPost_ret (v := .agg #[.int .i64 (1 + (r : Int)), .int .i64 0, .slice none 0 0, .slice (some ⟨w.heap.size + 1, 0, none⟩) 1 1]) (by simp [results, Try.results17, go_sem]) rfl ⟨rfl, rnew_ends⟩

end Go.Proofs.Ytlmcodmglcmmoaa
