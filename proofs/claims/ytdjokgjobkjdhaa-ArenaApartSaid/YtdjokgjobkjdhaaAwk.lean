/- The laws' awake, and node. -/
import Derived.Test.YtdjokgjobkjdhaaHeld
import Derived.Laws.StructEq
namespace Go.Proofs.Ytdjokgjobkjdhaa
open Go Go.RowKit Go.Deep

theorem node_equalIn (x : Nd) (w : World) : (Op.equalIn 10000 36 x.v x.v).run Try.prog w = .ok true w := by
  have ht : Try.prog.underlying 36 = some (.struct (Try.prog.fieldsOf 36)) := by kernel_rfl
  have hp : Try.prog.stoodInHeld 36 = false := by kernel_rfl
  have hf : ((Try.prog.fieldsOf 36).toList.map fun f => (f.name == "_", f.type, f.offset)) = [(false, 34, 0), (false, 34, 1), (false, 3, 2), (false, 3, 3), (false, 21, 4), (false, 21, 5)] := by kernel_rfl
  have u1 : Try.prog.underlying 34 = some (.int .u64) := by kernel_rfl
  have u2 : Try.prog.underlying 3 = some (.int .i64) := by kernel_rfl
  have u3 : Try.prog.underlying 21 = some (.int .i32) := by kernel_rfl
  rw [show (10000 : Nat) = 9999 + 1 from rfl, run_equalIn_struct w 9999 _ _ _ ht hp]
  generalize (Try.prog.fieldsOf 36).toList = fs at hf
  rcases fs with _ | ⟨f0, _ | ⟨f1, _ | ⟨f2, _ | ⟨f3, _ | ⟨f4, _ | ⟨f5, _ | ⟨f6, fs⟩⟩⟩⟩⟩⟩⟩
  case cons.cons.cons.cons.cons.cons.nil =>
    simp only [List.map_cons, List.map_nil, List.cons.injEq, Prod.mk.injEq, and_true] at hf
    obtain ⟨⟨n0, t0, o0⟩, ⟨n1, t1, o1⟩, ⟨n2, t2, o2⟩, ⟨n3, t3, o3⟩, ⟨n4, t4, o4⟩, ⟨n5, t5, o5⟩⟩ := hf
    have m0 : f0.name ≠ "_" := by simpa using n0
    have m1 : f1.name ≠ "_" := by simpa using n1
    have m2 : f2.name ≠ "_" := by simpa using n2
    have m3 : f3.name ≠ "_" := by simpa using n3
    have m4 : f4.name ≠ "_" := by simpa using n4
    have m5 : f5.name ≠ "_" := by simpa using n5
    have p0 : ∀ w : World, (part 34 #[.int .u64 x.key, .int .u64 x.val, .int .i64 x.flag, .int .i64 x.tag, .int .i32 x.prev, .int .i32 x.next] 0).run Try.prog w = .ok (.int .u64 x.key) w := fun _ => by kernel_rfl
    have p1 : ∀ w : World, (part 34 #[.int .u64 x.key, .int .u64 x.val, .int .i64 x.flag, .int .i64 x.tag, .int .i32 x.prev, .int .i32 x.next] 1).run Try.prog w = .ok (.int .u64 x.val) w := fun _ => by kernel_rfl
    have p2 : ∀ w : World, (part 3 #[.int .u64 x.key, .int .u64 x.val, .int .i64 x.flag, .int .i64 x.tag, .int .i32 x.prev, .int .i32 x.next] 2).run Try.prog w = .ok (.int .i64 x.flag) w := fun _ => by kernel_rfl
    have p3 : ∀ w : World, (part 3 #[.int .u64 x.key, .int .u64 x.val, .int .i64 x.flag, .int .i64 x.tag, .int .i32 x.prev, .int .i32 x.next] 3).run Try.prog w = .ok (.int .i64 x.tag) w := fun _ => by kernel_rfl
    have p4 : ∀ w : World, (part 21 #[.int .u64 x.key, .int .u64 x.val, .int .i64 x.flag, .int .i64 x.tag, .int .i32 x.prev, .int .i32 x.next] 4).run Try.prog w = .ok (.int .i32 x.prev) w := fun _ => by kernel_rfl
    have p5 : ∀ w : World, (part 21 #[.int .u64 x.key, .int .u64 x.val, .int .i64 x.flag, .int .i64 x.tag, .int .i32 x.prev, .int .i32 x.next] 5).run Try.prog w = .ok (.int .i32 x.next) w := fun _ => by kernel_rfl
    have q1 : ∀ (w : World) (n : Int), (Op.equalIn 9999 34 (.int .u64 n) (.int .u64 n)).run Try.prog w = .ok true w := fun w n => by
      rw [show (9999 : Nat) = 9998 + 1 from rfl, run_equalIn_int w 9998 _ .u64 .u64 n n u1, beq_self_eq_true]
    have q2 : ∀ (w : World) (n : Int), (Op.equalIn 9999 3 (.int .i64 n) (.int .i64 n)).run Try.prog w = .ok true w := fun w n => by
      rw [show (9999 : Nat) = 9998 + 1 from rfl, run_equalIn_int w 9998 _ .i64 .i64 n n u2, beq_self_eq_true]
    have q3 : ∀ (w : World) (n : Int), (Op.equalIn 9999 21 (.int .i32 n) (.int .i32 n)).run Try.prog w = .ok true w := fun w n => by
      rw [show (9999 : Nat) = 9998 + 1 from rfl, run_equalIn_int w 9998 _ .i32 .i32 n n u3, beq_self_eq_true]
    simp only [Op.eqFields, m0, m1, m2, m3, m4, m5, t0, t1, t2, t3, t4, t5, o0, o1, o2, o3, o4, o5, Sem.run_bind, Sem.run_ite, ne_eq, not_false_eq_true, if_true,
      p0, p1, p2, p3, p4, p5, q1, q2, q3, Result.andThen_ok, Bool.not_true, Bool.false_eq_true, if_false, Sem.run_pure]
  all_goals simp at hf
theorem node_eql (x : Nd) (w : World) : (binOp .eql 36 x.v x.v).run Try.prog w = .ok (.bool true) w := by
  rw [run_eql_struct, node_equalIn x w]; rfl
theorem node_neq (x : Nd) (w : World) : (binOp .neq 36 x.v x.v).run Try.prog w = .ok (.bool false) w := by
  rw [run_neq_struct, node_equalIn x w]; rfl

theorem node_walk (x : Nd) (w : World) :
    Calls Try.prog 15 #[x.v] w fun e w' => e = .returned x.v ∧ Below w.heap.size w w' := by
  go_enter Try.func15, Try.ntmps15
  go_wp2
  exact bodyPost_ret (v := x.v) (by simp [results, Try.results15, go_sem]) rfl ⟨rfl, ((Below.refl _ _).alloc (Nat.le_refl _) _).alloc (by simp) _⟩

def s1 : St := (St.first 2).alloc
def s2 : St := s1.alloc
def s3 : St := s2.setI 1 ⟨7, 0, 0, 0, 0, 0⟩
def s4 : St := s3.freeI 1
def s5 : St := s4.freeI 1
def s6 : St := s5.alloc

theorem awake_walk (w : World) :
    Calls Try.prog 12 #[] w fun e w' => e = .returned (.bool true) ∧ Below w.heap.size w w' := by
  have hfld : ∀ w : World, (Instr.field 36 (.agg #[.int .u64 7, .int .u64 0, .int .i64 0, .int .i64 0, .int .i32 0, .int .i32 0]) 0).run Try.prog w = .ok (.int .u64 7) w := fun _ => by kernel_rfl
  have heq : ∀ w : World, (binOp .eql 36 (.agg #[.int .u64 0, .int .u64 0, .int .i64 0, .int .i64 0, .int .i32 0, .int .i32 0]) (.agg #[.int .u64 0, .int .u64 0, .int .i64 0, .int .i64 0, .int .i32 0, .int .i32 0])).run Try.prog w = .ok (.bool true) w := node_eql Nd.zero
  go_enter Try.func12, Try.ntmps12
  go_wp2_with fail
  refine (held_new_least (Below.refl _ _) 1 (by decide)).mono ?_
  rintro e w1 ⟨rfl, h⟩
  have H1 := Lib.hid h; clear h
  go_wp2_with fail
  refine (show Calls _ _ _ w1 fun e w' => e = .returned (.int .i32 1) ∧ Held w w' w.heap.size s1 [] ∧ Kept [] w1 w' from held_alloc H1.out (by decide)).mono ?_
  rintro e w2 ⟨rfl, h, _⟩
  have H2 := Lib.hid h; clear h
  go_wp2_with fail
  refine (show Calls _ _ _ w2 fun e w' => e = .returned (.int .i32 2) ∧ Held w w' w.heap.size s2 [] ∧ Kept [] w2 w' from held_alloc H2.out (by decide)).mono ?_
  rintro e w3 ⟨rfl, h, _⟩
  have H3 := Lib.hid h; clear h
  go_wp2_with fail
  refine (show Calls _ _ _ w3 fun e w' => e = .returned (.int .i64 4) ∧ w3 = w' from held_len H3.out).mono ?_
  rintro e w4 ⟨rfl, rfl⟩
  go_wp2_with fail
  refine (show Calls _ _ _ w3 fun e w' => e = .returned (.bool true) ∧ Held w w' w.heap.size s3 [] ∧ Kept [] w3 w' from held_set H3.out (by decide) 1 (by decide) ⟨7, 0, 0, 0, 0, 0⟩).mono ?_
  rintro e w4 ⟨rfl, h, _⟩
  have H4 := Lib.hid h; clear h
  go_wp2_with fail
  refine (show Calls _ _ _ w4 fun e w' => e = .returned (.agg #[.int .u64 7, .int .u64 0, .int .i64 0, .int .i64 0, .int .i32 0, .int .i32 0]) ∧ Below w4.heap.size w4 w' from held_at H4.out (by decide) 1 (by decide)).mono ?_
  rintro e w5 ⟨rfl, h⟩
  have H5 := Lib.hid (H4.out.still h).1; clear h
  go_wp2_with fail
  refine (show Calls _ _ _ w5 fun e w' => e = .returned (.bool true) ∧ Held w w' w.heap.size s4 [] ∧ Kept [] w5 w' from held_free H5.out (by decide) 1 (by decide)).mono ?_
  rintro e w6 ⟨rfl, h, _⟩
  have H6 := Lib.hid h; clear h
  go_wp2_with fail
  refine (show Calls _ _ _ w6 fun e w' => e = .returned (.bool false) ∧ Held w w' w.heap.size s5 [] ∧ Kept [] w6 w' from held_free H6.out (by decide) 1 (by decide)).mono ?_
  rintro e w7 ⟨rfl, h, _⟩
  have H7 := Lib.hid h; clear h
  go_wp2_with fail
  refine (show Calls _ _ _ w7 fun e w' => e = .returned (.int .i64 1) ∧ ∃ d, w' = w7.drewN d from held_live H7.out (by decide)).mono ?_
  rintro e w8 ⟨rfl, d, rfl⟩
  have H8 := Lib.hid (H7.out.still (below_drewN' w7 d)).1
  go_wp2_with fail
  refine (show Calls _ _ _ (w7.drewN d) fun e w' => e = .returned (.int .i32 1) ∧ Held w w' w.heap.size s6 [] ∧ Kept [] (w7.drewN d) w' from held_alloc H8.out (by decide)).mono ?_
  rintro e w9 ⟨rfl, h, _⟩
  have H9 := Lib.hid h; clear h
  go_wp2_with fail
  refine (show Calls _ _ _ w9 fun e w' => e = .returned (.agg #[.int .u64 0, .int .u64 0, .int .i64 0, .int .i64 0, .int .i32 0, .int .i32 0]) ∧ Below w9.heap.size w9 w' from held_at H9.out (by decide) 1 (by decide)).mono ?_
  rintro e w10 ⟨rfl, h⟩
  have H10 := Lib.hid (H9.out.still h).1; clear h
  go_wp2_with fail
  refine (show Calls _ _ _ w10 fun e w' => e = .returned (.bool true) ∧ w10 = w' from held_is H10.out (by decide) 2 (by decide)).mono ?_
  rintro e w11 ⟨rfl, rfl⟩
  go_wp2_with fail
  refine (show Calls _ _ _ w10 fun e w' => e = .returned (.bool false) ∧ w10 = w' from held_is H10.out (by decide) 0 (by decide)).mono ?_
  rintro e w11 ⟨rfl, rfl⟩
  go_wp2
  go_ret
  exact ⟨rfl, H10.out.below⟩
end Go.Proofs.Ytdjokgjobkjdhaa
