/- Of lists that are nil nothing is told; IlistNobody, walked. -/
import Derived.Test.YtlmcodmglcmmoaaLsAwk
namespace Go.Proofs.Ytlmcodmglcmmoaa
open Go Go.RowKit Go.Deep Go.Shelf

theorem has_nil (w : World) (tag : Int) : Calls Try.prog 45 #[.pointer none, .int .i64 tag] w fun e w' => e = .returned (.bool false) ∧ w = w' := by
  go_enter Try.func45, Try.ntmps45
  go_wp2
  go_ret
  exact ⟨rfl, rfl⟩
theorem front_nil (w : World) (tag : Int) : Calls Try.prog 19 #[.pointer none, .int .i64 tag] w fun e w' => e = .returned (.int .i32 0) ∧ w = w' := by
  go_enter Try.func19, Try.ntmps19
  go_wp2_with fail
  refine (has_nil w tag).mono ?_
  rintro e w' ⟨rfl, rfl⟩
  go_wp2
  go_ret
  exact ⟨rfl, rfl⟩

theorem back_nil (w : World) (tag : Int) : Calls Try.prog 23 #[.pointer none, .int .i64 tag] w fun e w' => e = .returned (.int .i32 0) ∧ w = w' := by
  go_enter Try.func23, Try.ntmps23
  go_wp2_with fail
  refine (has_nil w tag).mono ?_
  rintro e w' ⟨rfl, rfl⟩
  go_wp2
  go_ret
  exact ⟨rfl, rfl⟩

theorem count_nil (w : World) (tag : Int) : Calls Try.prog 18 #[.pointer none, .int .i64 tag] w fun e w' => e = .returned (.int .i64 0) ∧ w = w' := by
  go_enter Try.func18, Try.ntmps18
  go_wp2_with fail
  refine (has_nil w tag).mono ?_
  rintro e w' ⟨rfl, rfl⟩
  go_wp2
  go_ret
  exact ⟨rfl, rfl⟩
theorem after_nil (w : World) (i : Int) : Calls Try.prog 29 #[.pointer none, .int .i32 i] w fun e w' => e = .returned (.int .i32 0) ∧ w = w' := by
  go_enter Try.func29, Try.ntmps29
  go_wp2
  go_ret
  exact ⟨rfl, rfl⟩

theorem before_nil (w : World) (i : Int) : Calls Try.prog 24 #[.pointer none, .int .i32 i] w fun e w' => e = .returned (.int .i32 0) ∧ w = w' := by
  go_enter Try.func24, Try.ntmps24
  go_wp2
  go_ret
  exact ⟨rfl, rfl⟩

theorem tag_nil (w : World) (i : Int) : Calls Try.prog 21 #[.pointer none, .int .i32 i] w fun e w' => e = .returned (.int .i64 (-1)) ∧ w = w' := by
  go_enter Try.func21, Try.ntmps21
  go_wp2
  go_ret
  exact ⟨rfl, rfl⟩
theorem remove_nil (w : World) (i : Int) : Calls Try.prog 27 #[.pointer none, .int .i32 i] w fun e w' => e = .returned (.bool false) ∧ w = w' := by
  go_enter Try.func27, Try.ntmps27
  go_wp2_with fail
  refine (tag_nil w i).mono ?_
  rintro e w' ⟨rfl, rfl⟩
  go_wp2_with fail
  refine (has_nil w (-1)).mono ?_
  rintro e w' ⟨rfl, rfl⟩
  go_wp2
  go_ret
  exact ⟨rfl, rfl⟩
theorem moveFront_nil (w : World) (tag i : Int) : Calls Try.prog 28 #[.pointer none, .int .i64 tag, .int .i32 i] w fun e w' => e = .returned (.bool false) ∧ w = w' := by
  go_enter Try.func28, Try.ntmps28
  go_wp2_with fail
  refine (has_nil w tag).mono ?_
  rintro e w' ⟨rfl, rfl⟩
  go_wp2
  go_ret
  exact ⟨rfl, rfl⟩
theorem pushFront_nil0 (w : World) (tag i : Int) (B0 B1 : Nat) : Calls Try.prog 47 #[.pointer none, .int .i64 tag, .int .i32 i, .func (.func 48) #[] #[.pointer (some ⟨B0, 0, none⟩), .pointer (some ⟨B1, 0, none⟩)]] w fun e w' => e = .returned (.bool false) ∧ w = w' := by
  go_enter Try.func47, Try.ntmps47
  go_wp2_with fail
  refine (has_nil w tag).mono ?_
  rintro e w' ⟨rfl, rfl⟩
  go_wp2
  go_ret
  exact ⟨rfl, rfl⟩
theorem pushFront_nil (w : World) (tag i : Int) : Calls Try.prog 22 #[.pointer none, .int .i64 tag, .int .i32 i] w fun e w' => e = .returned (.bool false) ∧ Below w.heap.size w w' := by
  have HB : Hid (Below w.heap.size w ((w.alloc (.cells #[.pointer none] 25)).alloc (.cells #[.int .i64 tag] 3))) := Lib.hid (((Below.refl _ _).alloc (Nat.le_refl _) _).alloc (by simp) _)
  go_enter Try.func22, Try.ntmps22
  go_wp2_with fail
  refine (pushFront_nil0 _ tag i _ _).mono ?_
  rintro e w' ⟨rfl, rfl⟩
  go_wp2
  go_ret
  exact ⟨rfl, HB.out⟩

theorem pushBack_nil0 (w : World) (tag i : Int) (B0 B1 : Nat) : Calls Try.prog 47 #[.pointer none, .int .i64 tag, .int .i32 i, .func (.func 50) #[] #[.pointer (some ⟨B0, 0, none⟩), .pointer (some ⟨B1, 0, none⟩)]] w fun e w' => e = .returned (.bool false) ∧ w = w' := by
  go_enter Try.func47, Try.ntmps47
  go_wp2_with fail
  refine (has_nil w tag).mono ?_
  rintro e w' ⟨rfl, rfl⟩
  go_wp2
  go_ret
  exact ⟨rfl, rfl⟩
theorem pushBack_nil (w : World) (tag i : Int) : Calls Try.prog 26 #[.pointer none, .int .i64 tag, .int .i32 i] w fun e w' => e = .returned (.bool false) ∧ Below w.heap.size w w' := by
  have HB : Hid (Below w.heap.size w ((w.alloc (.cells #[.pointer none] 25)).alloc (.cells #[.int .i64 tag] 3))) := Lib.hid (((Below.refl _ _).alloc (Nat.le_refl _) _).alloc (by simp) _)
  go_enter Try.func26, Try.ntmps26
  go_wp2_with fail
  refine (pushBack_nil0 _ tag i _ _).mono ?_
  rintro e w' ⟨rfl, rfl⟩
  go_wp2
  go_ret
  exact ⟨rfl, HB.out⟩
theorem each1_nil (m : Nat) (r B1 B2 : Nat) (tag : Int) (J Jx : List Nat → World → Prop) (W : World) (hB1 : W.cell? ⟨B1, 0, none⟩ = some (.pointer none)) (hB2 : W.cell? ⟨B2, 0, none⟩ = some (.int .i64 tag)) (h0 : J [] W) :
    CallsIn Fence.wide m Try.prog 55 #[.func (.yield r) #[] #[], .pointer (some ⟨B1, 0, none⟩), .pointer (some ⟨B2, 0, none⟩)] W fun e W' => (∃ v, e = .returned v) ∧
      ((∃ ys, ys = [] ∧ J ys W') ∨ (∃ pre, pre <+: [] ∧ Jx pre W')) := by
  refine callsIn_wide.2 ?_
  go_enter Try.func55, Try.ntmps55
  go_wp2_with fail
  refine (front_nil W tag).mono ?_
  rintro e w' ⟨rfl, rfl⟩
  go_wp2_with fail
  refine (count_nil W tag).mono ?_
  rintro e w' ⟨rfl, rfl⟩
  go_wp2_with fail
  go_loopg [11] 0 (fun g s11 wr => s11 = .int .i64 0 ∧ wr = W)
  case atStart => exact ⟨rfl, rfl⟩
  case round =>
    obtain ⟨rfl, rfl⟩ := hrel
    go_wp2
    go_end0
    exact ⟨⟨_, rfl⟩, .inl ⟨_, rfl, h0⟩⟩
theorem all_nil (w : World) (tag : Int) : Calls Try.prog 20 #[.pointer none, .int .i64 tag] w fun e W' => ∃ F c, e = .returned (.slice F 0 c) ∧ Below w.heap.size w W' := by
  have h := callsIn_wide.1 (all_in (w := w) none tag [] (by simp) (fun w1 _ g2 g3 _ _ => fun r J Jx W hW _ _ _ h0 => each1_nil 4 r _ _ tag J Jx W ((hW.cell (p := ⟨w.heap.size + 1, 0, none⟩) (by assumption)).trans g2) ((hW.cell (p := ⟨w.heap.size + 1 + 1, 0, none⟩) (by assumption)).trans g3) h0))
  refine h.mono ?_
  rintro e W' ⟨v, rfl, hv, hb⟩
  rcases hv.2 with ⟨rfl, _⟩ | ⟨g, cap, cur, rfl, _, _, hk⟩
  · exact ⟨none, 0, rfl, hb⟩
  · exact ⟨_, _, rfl, hb⟩

theorem ilistNobody_walk (w : World) (tag i : Int) : Calls Try.prog 7 #[.int .i64 tag, .int .i32 i] w fun e w' => e = .returned (.bool true) ∧ Below w.heap.size w w' := by
  go_enter Try.func7, Try.ntmps7
  go_wp2_with fail
  refine (awake_walk _).mono ?_
  rintro e w1 ⟨rfl, h⟩
  have B1 := Lib.hid h
  clear h
  go_wp2_with fail
  refine (pushFront_nil _ tag i).mono ?_
  rintro e w2 ⟨rfl, h⟩
  have B2 := Lib.hid (B1.out.trans (h.mono B1.out.size))
  clear h B1
  go_wp2_with fail
  refine (pushBack_nil _ tag i).mono ?_
  rintro e w3 ⟨rfl, h⟩
  have B3 := Lib.hid (B2.out.trans (h.mono B2.out.size))
  clear h B2
  go_wp2_with fail
  refine (remove_nil _ i).mono ?_
  rintro e w' ⟨rfl, rfl⟩
  go_wp2_with fail
  refine (moveFront_nil _ tag i).mono ?_
  rintro e w' ⟨rfl, rfl⟩
  go_wp2_with fail
  refine (front_nil _ tag).mono ?_
  rintro e w' ⟨rfl, rfl⟩
  go_wp2_with fail
  refine (back_nil _ tag).mono ?_
  rintro e w' ⟨rfl, rfl⟩
  go_wp2_with fail
  refine (after_nil _ i).mono ?_
  rintro e w' ⟨rfl, rfl⟩
  go_wp2_with fail
  refine (before_nil _ i).mono ?_
  rintro e w' ⟨rfl, rfl⟩
  go_wp2_with fail
  refine (tag_nil _ i).mono ?_
  rintro e w' ⟨rfl, rfl⟩
  go_wp2_with fail
  refine (count_nil _ tag).mono ?_
  rintro e w' ⟨rfl, rfl⟩
  go_wp2_with fail
  refine (all_nil _ tag).mono ?_
  rintro e w4 ⟨F, c, rfl, h⟩
  have B4 := Lib.hid (B3.out.trans (h.mono B3.out.size))
  clear h B3
  go_wp2
  go_ret
  exact ⟨rfl, B4.out⟩
end Go.Proofs.Ytlmcodmglcmmoaa
