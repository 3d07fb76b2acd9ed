/- ArenaNew, walked; the document's own New. -/
import Derived.Test.YtdjokgjobkjdhaaAwk
namespace Go.Proofs.Ytdjokgjobkjdhaa
open Go Go.RowKit Go.Deep

def refNode (x : Nd) (j : Nat) : Value :=
  match j with
  | 0 => .int .u64 x.key
  | 1 => .int .u64 x.val
  | 2 => .int .i64 x.flag
  | 3 => .int .i64 x.tag
  | 4 => .int .i32 x.prev
  | _ => .int .i32 x.next

abbrev refNew (n p : Nat) : Value := .agg #[.int .i64 n, .int .i64 0, .slice none 0 0, .slice (some ⟨p, 0, none⟩) 1 1]
def RNew (w w' : World) : Prop := Below w.heap.size w w' ∧ w'.rowIs (w.heap.size + 1) 39 6 (fun j => refNode Nd.zero j)

theorem rnew_ends {w : World} {o : Obj} : RNew w ((w.alloc o).alloc (.cells #[.int .u64 0, .int .u64 0, .int .i64 0, .int .i64 0, .int .i32 0, .int .i32 0] 39)) := by
  refine ⟨((Below.refl _ _).alloc (Nat.le_refl _) _).alloc (by simp) _, ?_⟩
  have h := World.rowIs_alloc (w.alloc o) #[.int .u64 0, .int .u64 0, .int .i64 0, .int .i64 0, .int .i32 0, .int .i32 0] 39 (fun j => refNode Nd.zero j) (fun i hi => by
    have hi6 : i < 6 := hi
    match i, hi6 with
    | 0, _ => rfl
    | 1, _ => rfl
    | 2, _ => rfl
    | 3, _ => rfl
    | 4, _ => rfl
    | 5, _ => rfl)
  have e : (w.alloc o).heap.size = w.heap.size + 1 := by simp
  rw [e] at h
  exact h

theorem rnew_least (w : World) (r : Int) (hr : r ≤ 1) :
    Calls Try.prog 21 #[.int .i64 r] w fun e w' => e = .returned (.agg #[.int .i64 2, .int .i64 0, .slice none 0 0, .slice (some ⟨w.heap.size + 1, 0, none⟩) 1 1]) ∧ RNew w w' := by
  have hmk : ∀ w : World, (Instr.makeSlice 29 (.int .i64 1) (.int .i64 1)).run Try.prog w = .ok (.slice (some ⟨w.heap.size, 0, none⟩) 1 1) (w.alloc (.cells #[.int .u64 0, .int .u64 0, .int .i64 0, .int .i64 0, .int .i32 0, .int .i32 0] 39)) := fun _ => by kernel_rfl
  by_cases h1 : r < 1
  · go_enter Try.func21, Try.ntmps21
    go_wp2
    exact bodyPost_ret (v := .agg #[.int .i64 2, .int .i64 0, .slice none 0 0, .slice (some ⟨w.heap.size + 1, 0, none⟩) 1 1]) (by simp [results, Try.results21, go_sem]) rfl ⟨rfl, rnew_ends⟩
  · obtain rfl : r = 1 := by omega
    clear hr h1
    go_enter Try.func21, Try.ntmps21
    go_wp2
    exact bodyPost_ret (v := .agg #[.int .i64 2, .int .i64 0, .slice none 0 0, .slice (some ⟨w.heap.size + 1, 0, none⟩) 1 1]) (by simp [results, Try.results21, go_sem]) rfl ⟨rfl, rnew_ends⟩
theorem rnew_more (w : World) (r : Nat) (hr : 1 < r) (hr2 : r ≤ 10000) :
    Calls Try.prog 21 #[.int .i64 r] w fun e w' => e = .returned (.agg #[.int .i64 (1 + (r : Int)), .int .i64 0, .slice none 0 0, .slice (some ⟨w.heap.size + 1, 0, none⟩) 1 1]) ∧ RNew w w' := by
  have hmk : ∀ w : World, (Instr.makeSlice 29 (.int .i64 1) (.int .i64 1)).run Try.prog w = .ok (.slice (some ⟨w.heap.size, 0, none⟩) 1 1) (w.alloc (.cells #[.int .u64 0, .int .u64 0, .int .i64 0, .int .i64 0, .int .i32 0, .int .i32 0] 39)) := fun _ => by kernel_rfl
  have h1 : (1 : Int) ≤ (r : Int) := by omega
  have h1' : ¬ ((r : Int) < 1) := by omega
  have h2 : (r : Int) ≤ 1048576 := by omega
  go_enter Try.func21, Try.ntmps21
  go_wp2
  exact bodyPost_ret (v := .agg #[.int .i64 (1 + (r : Int)), .int .i64 0, .slice none 0 0, .slice (some ⟨w.heap.size + 1, 0, none⟩) 1 1]) (by simp [results, Try.results21, go_sem]) rfl ⟨rfl, rnew_ends⟩

/- Of a new arena no number is a slot that is taken. -/
theorem first_is (n : Nat) (i : Int) : (St.first n).is i = false := by
  unfold St.is St.tk St.first
  cases h : decide (0 < i)
  · rfl
  · simp only [Bool.true_and, decide_eq_false_iff_not]
    have : 0 < i := by simpa using h
    omega
theorem first_at (n : Nat) (i : Int) : (St.first n).at_ i = Nd.zero := by unfold St.at_; rw [first_is]; rfl
theorem first_freeI (n : Nat) (i : Int) : (St.first n).freeI i = St.first n := by unfold St.freeI; rw [first_is]; rfl

theorem looks_first {w0 w : World} {b n : Nat} (h : Held w0 w b (St.first n) []) (hn : n ≤ 1000000) (i : Int) (h32 : i ≤ 2147483647) :
    Calls Try.prog 17 #[.pointer (some ⟨b, 0, none⟩), .int .i32 i] w (fun e w' => e = .returned (.bool false) ∧ w = w') ∧
    Calls Try.prog 14 #[.pointer (some ⟨b, 0, none⟩), .int .i32 i] w (fun e w' => e = .returned (.agg #[.int .u64 0, .int .u64 0, .int .i64 0, .int .i64 0, .int .i32 0, .int .i32 0]) ∧ Below w.heap.size w w') ∧
    Calls Try.prog 23 #[.pointer (some ⟨b, 0, none⟩), .int .i32 i] w (fun e w' => e = .returned (.bool false) ∧ Held w0 w' b (St.first n) [] ∧ Kept [] w w') ∧
    Calls Try.prog 24 #[.pointer (some ⟨b, 0, none⟩), .int .i32 i, .agg #[.int .u64 1, .int .u64 0, .int .i64 0, .int .i64 0, .int .i32 0, .int .i32 0]] w (fun e w' => e = .returned (.bool false) ∧ Held w0 w' b ((St.first n).setI i ⟨1, 0, 0, 0, 0, 0⟩) [] ∧ Kept [] w w') := by
  have h1 := held_is h hn i h32
  have h2 := held_at h hn i h32
  have h3 := held_free h hn i h32
  have h4 := held_set h hn i h32 ⟨1, 0, 0, 0, 0, 0⟩
  rw [first_is] at h1 h3 h4
  rw [first_at] at h2
  rw [first_freeI] at h3
  exact ⟨h1, h2, h3, h4⟩

theorem new_any {w0 w : World} (hb : Below w0.heap.size w0 w) (r : Int) (hr2 : r ≤ 5000) : ∃ n : Nat, n ≤ 5001 ∧
    Calls Try.prog 19 #[.int .i64 r] w (fun e w' => e = .returned (.pointer (some ⟨w.heap.size, 0, none⟩)) ∧ Held w0 w' w.heap.size (St.first n) []) ∧
    ∀ w1 : World, Calls Try.prog 21 #[.int .i64 r] w1 fun e w' => e = .returned (.agg #[.int .i64 (n : Int), .int .i64 0, .slice none 0 0, .slice (some ⟨w1.heap.size + 1, 0, none⟩) 1 1]) ∧ RNew w1 w' := by
  by_cases h : r ≤ 1
  · exact ⟨2, by omega, held_new_least hb r h, fun w1 => rnew_least w1 r h⟩
  · obtain ⟨k, rfl⟩ : ∃ k : Nat, r = k := ⟨r.toNat, by omega⟩
    refine ⟨1 + k, by omega, held_new hb k (by omega) (by omega), fun w1 => ?_⟩
    have := rnew_more w1 k (by omega) (by omega)
    rw [Int.natCast_add]
    exact this

theorem arenaNew_walk (r i : Int) (w1 : (Lit.int .i32 i).wf = true) (w : World) :
    Calls Try.prog 5 #[.int .i64 r, .int .i32 i] w fun e w' => e = .returned (.bool true) ∧ Below w.heap.size w w' := by
  have h32 : i ≤ 2147483647 := by
    simp only [Lit.wf, Bool.and_eq_true, decide_eq_true_eq] at w1
    have h2 : IntKind.i32.max = 2147483647 := rfl
    omega
  have hlo : -5000 ≤ r.tmod 5001 := by
    have := Int.tmod_lt_of_pos (-r) (show (0 : Int) < 5001 by decide)
    rw [Int.neg_tmod] at this
    omega
  have hhi : r.tmod 5001 ≤ 5000 := by
    have := Int.tmod_lt_of_pos r (show (0 : Int) < 5001 by decide)
    omega
  have heq : ∀ w : World, (binOp .eql 36 (.agg #[.int .u64 0, .int .u64 0, .int .i64 0, .int .i64 0, .int .i32 0, .int .i32 0]) (.agg #[.int .u64 0, .int .u64 0, .int .i64 0, .int .i64 0, .int .i32 0, .int .i32 0])).run Try.prog w = .ok (.bool true) w := node_eql Nd.zero
  have hfld : ∀ (w : World) (n : Int) (p : Nat), (Instr.field 31 (.agg #[.int .i64 n, .int .i64 0, .slice none 0 0, .slice (some ⟨p, 0, none⟩) 1 1]) 0).run Try.prog w = .ok (.int .i64 n) w := fun _ _ _ => by kernel_rfl
  clear w1
  have hw : IntKind.i64.wrap (r.tmod 5001) = r.tmod 5001 := IntWalk.i64_in _ (by omega)
  go_enter Try.func5, Try.ntmps5
  go_wp2_with fail
  refine (awake_walk _).mono ?_
  rintro e w1 ⟨rfl, h⟩
  have B1 := Lib.hid h; clear h
  generalize hR : r.tmod 5001 = R at hlo hhi hw
  have HR := Lib.hid hR
  go_wp2_with fail
  clear hR hw
  obtain ⟨n, hn, hnew, hrnew⟩ := new_any B1.out R hhi
  have HRN := Lib.hid hrnew
  refine hnew.mono ?_
  rintro e w2 ⟨rfl, h⟩
  have H2 := Lib.hid h; clear h hnew hrnew hlo hhi
  go_wp2_with fail
  refine (held_len H2.out).mono ?_
  rintro e w3 ⟨rfl, rfl⟩
  have en : (St.first n).n = n := rfl
  go_wp2_with fail
  refine (HRN.out w2).mono ?_
  rintro e w3 ⟨rfl, h⟩
  have H3 := Lib.hid (H2.out.still h.1).1; clear h
  go_wp2_with fail
  refine (show Calls _ _ _ w3 fun e w' => e = .returned (.int .i64 0) ∧ ∃ d, w' = w3.drewN d from held_live H3.out (by show n ≤ _; omega)).mono ?_
  rintro e w4 ⟨rfl, d, rfl⟩
  have H4 := Lib.hid (H3.out.still (below_drewN' w3 d)).1
  go_wp2_with fail
  refine (looks_first H4.out (by omega) i h32).1.mono ?_
  rintro e w5 ⟨rfl, rfl⟩
  go_wp2_with fail
  refine (looks_first H4.out (by omega) i h32).2.1.mono ?_
  rintro e w5 ⟨rfl, h⟩
  have H5 := Lib.hid (H4.out.still h).1; clear h
  go_wp2_with fail
  refine (looks_first H5.out (by omega) i h32).2.2.1.mono ?_
  rintro e w6 ⟨rfl, h, _⟩
  have H6 := Lib.hid h; clear h
  go_wp2_with fail
  refine (looks_first H6.out (by omega) i h32).2.2.2.mono ?_
  rintro e w7 ⟨rfl, h, _⟩
  have H7 := Lib.hid h; clear h
  go_wp2
  go_ret
  exact ⟨rfl, H7.out.below⟩
end Go.Proofs.Ytdjokgjobkjdhaa
