/- IlistNew, walked. -/
import Derived.Test.YtlmcodmglcmmoaaLsAwk
import Derived.Test.YtlmcodmglcmmoaaRlN
namespace Go.Proofs.Ytlmcodmglcmmoaa
open Go Go.RowKit Go.Deep

def newA : St := (St.first 2).alloc
section
variable {w0 w : World} {p b n : Nat} {K : List Nat}
theorem empty_tag (n : Nat) (i : Int) : tagI n (fun _ => []) i = -1 := tagI_out (fun t _ h => by simp at h)
theorem empty_looks (h : HL w0 w p b n (fun _ => []) newA K) (tag : Int) (i : Int) (h32 : i ≤ 2147483647) :
    Calls Try.prog 18 #[.pointer (some ⟨p, 0, none⟩), .int .i64 tag] w (fun e w' => e = .returned (.int .i64 0) ∧ w = w') ∧
    Calls Try.prog 19 #[.pointer (some ⟨p, 0, none⟩), .int .i64 tag] w (fun e w' => e = .returned (.int .i32 0) ∧ w = w') ∧
    Calls Try.prog 20 #[.pointer (some ⟨p, 0, none⟩), .int .i64 tag] w (fun e w' => ∃ F c, e = .returned (.slice F 0 c) ∧ Below w.heap.size w w') ∧
    Calls Try.prog 21 #[.pointer (some ⟨p, 0, none⟩), .int .i32 i] w (fun e w' => e = .returned (.int .i64 (-1)) ∧ Below w.heap.size w w') ∧
    Calls Try.prog 22 #[.pointer (some ⟨p, 0, none⟩), .int .i64 tag, .int .i32 1] w (fun e w' => e = .returned (.bool (hasT n tag)) ∧ Below w0.heap.size w0 w') := by
  have h1 := hl_len h tag
  have e1 : lenL n (fun _ => []) tag = 0 := by unfold lenL; split <;> rfl
  have h2 := hl_front h tag
  have e2 : frontL n (fun _ => []) tag = 0 := by unfold frontL; split <;> rfl
  have h3 := all_walk h tag
  have e3 : allL n (fun _ => []) tag = [] := by unfold allL; split <;> rfl
  have h4 := hl_tag h i h32
  have h5 := hl_pushFront h tag 1 (by decide)
  have e5 : pushOk n (fun _ => []) newA tag 1 = hasT n tag := by
    unfold pushOk
    rw [empty_tag, show newA.is 1 = true from rfl]
    simp
  rw [e1] at h1
  rw [e2] at h2
  rw [e3] at h3
  rw [empty_tag] at h4
  rw [e5] at h5
  refine ⟨h1, h2, h3.mono ?_, h4, h5.mono (fun e w' ⟨g1, g2, _⟩ => ⟨g1, g2.below⟩)⟩
  rintro e w' ⟨v, rfl, hv, hb⟩
  rcases hv.2 with ⟨rfl, _⟩ | ⟨g, cap, cur, rfl, _⟩
  · exact ⟨none, 0, rfl, hb⟩
  · exact ⟨_, _, rfl, hb⟩
end

theorem ilistNew_walk (w : World) (tags tag i : Int) (wi : (Lit.int .i32 i).wf = true) :
    Calls Try.prog 4 #[.int .i64 tags, .int .i64 tag, .int .i32 i] w fun e w' => e = .returned (.bool true) ∧ Below w.heap.size w w' := by
  have h32 : i ≤ 2147483647 := by
    simp only [Lit.wf, Bool.and_eq_true, decide_eq_true_eq] at wi
    have h2 : IntKind.i32.max = 2147483647 := rfl
    omega
  clear wi
  have HNT := Lib.hid (numT_bounds tags)
  have HMT : Hid (∀ w a0 a1 F k c nb m nc, Calls Try.prog 16 #[.agg #[.int .i64 a0, .int .i64 a1, .slice F k c, .slice (some ⟨nb, 0, none⟩) m nc], .int .i64 tags] w fun e w' => ∃ o, e = .returned (refLs a0 a1 F k c nb m nc (some ⟨o, 0, none⟩) (numT tags) (numT tags)) ∧ Below w.heap.size w w') :=
    Lib.hid (fun w a0 a1 F k c nb m nc => (rlnew_walk w a0 a1 F k c nb m nc tags).mono (fun e w' ⟨o, g1, g2, _⟩ => ⟨o, g1, g2⟩))
  have HIN : Hid (∀ w0 w b A K, Held w0 w b A K → A.n ≤ 1000000 → (∀ j, j ≠ 0 → (A.node j).tag = 0 ∧ (A.node j).prev = 0 ∧ (A.node j).next = 0) →
      Calls Try.prog 15 #[.pointer (some ⟨b, 0, none⟩), .int .i64 tags] w fun e w' => e = .returned (.pointer (some ⟨w.heap.size + 1, 0, none⟩)) ∧ HL w0 w' (w.heap.size + 1) b (numT tags) (fun _ => []) A K ∧ Kept K w w') :=
    Lib.hid (fun w0 w b A K h hs hz => ilnew_walk h hs hz tags)
  obtain ⟨N, hN⟩ : ∃ N, numT tags = N := ⟨_, rfl⟩
  rw [hN] at HNT HMT HIN
  clear hN
  have hN8 : N ≤ 8 := HNT.out.2
  have hfld : ∀ (w : World) (a0 a1 : Int) (F : Option Addr) (k c nb m nc o : Nat), (Instr.field 32 (refLs a0 a1 F k c nb m nc (some ⟨o, 0, none⟩) N N) 1).run Try.prog w = .ok (.slice (some ⟨o, 0, none⟩) N N) w := fun _ _ _ _ _ _ _ _ _ _ => by kernel_rfl
  go_enter Try.func4, Try.ntmps4
  go_wp2_with fail
  refine (awake_walk _).mono ?_
  rintro e w1 ⟨rfl, h⟩
  have B1 := Lib.hid h
  clear h
  go_wp2_with fail
  refine (show Calls _ _ _ w1 fun e w' => e = .returned (.pointer (some ⟨w1.heap.size, 0, none⟩)) ∧ Held w w' w1.heap.size (St.first 2) [] from held_new B1.out 1 (by decide) (by decide)).mono ?_
  rintro e w2 ⟨rfl, h⟩
  have H2 := Lib.hid h
  clear h
  go_wp2_with fail
  refine (show Calls _ _ _ w2 fun e w' => e = .returned (.int .i32 1) ∧ Held w w' w1.heap.size newA [] ∧ Kept [] w2 w' from held_alloc H2.out (by decide)).mono ?_
  rintro e w3 ⟨rfl, h, _⟩
  have H3 := Lib.hid h
  clear h
  go_wp2_with fail
  refine (HIN.out w w3 w1.heap.size newA [] H3.out (by decide) (fun _ _ => ⟨rfl, rfl, rfl⟩)).mono ?_
  rintro e w4 ⟨rfl, h, _⟩
  have H4 := Lib.hid h
  clear h
  by_cases h0 : 0 ≤ tag
  · go_wp2_with fail
    refine (rnew_least w4 1 (by decide)).mono ?_
    rintro e w5 ⟨rfl, h⟩
    have H5 := Lib.hid (H4.out.still h.1).1
    clear h
    go_wp2_with fail
    refine (HMT.out w5 2 0 none 0 0 (w4.heap.size + 1) 1 1).mono ?_
    rintro e w6 ⟨o, rfl, h⟩
    have H6 := Lib.hid (H5.out.still h).1
    clear h
    go_wp2_with fail
    refine (empty_looks H6.out tag i h32).1.mono ?_
    rintro e w7 ⟨rfl, rfl⟩
    go_wp2_with fail
    refine (empty_looks H6.out tag i h32).2.1.mono ?_
    rintro e w7 ⟨rfl, rfl⟩
    go_wp2_with fail
    refine (empty_looks H6.out tag i h32).2.2.1.mono ?_
    rintro e w7 ⟨F, c, rfl, h⟩
    have H7 := Lib.hid (H6.out.still h).1
    clear h
    go_wp2_with fail
    refine (empty_looks H7.out tag i h32).2.2.2.1.mono ?_
    rintro e w8 ⟨rfl, h⟩
    have H8 := Lib.hid (H7.out.still h).1
    clear h
    by_cases hl : tag < N
    · have eh : hasT N tag = true := by unfold hasT; rw [decide_eq_true h0, decide_eq_true hl]; rfl
      have HP := Lib.hid (empty_looks H8.out tag i h32).2.2.2.2
      rw [eh] at HP
      go_wp2_with fail
      refine HP.out.mono ?_
      rintro e w9 ⟨rfl, h⟩
      have H9 := Lib.hid h
      clear h
      go_wp2
      go_ret
      exact ⟨rfl, H9.out⟩
    · have eh : hasT N tag = false := by unfold hasT; rw [decide_eq_true h0, decide_eq_false hl]; rfl
      have hd : decide (tag < (N : Int)) = false := decide_eq_false hl
      clear hl
      have HP := Lib.hid (empty_looks H8.out tag i h32).2.2.2.2
      rw [eh] at HP
      go_wp2_with fail
      refine HP.out.mono ?_
      rintro e w9 ⟨rfl, h⟩
      have H9 := Lib.hid h
      clear h
      go_wp2
      go_ret
      exact ⟨rfl, H9.out⟩
  · have eh : hasT N tag = false := by unfold hasT; rw [decide_eq_false h0]; rfl
    go_wp2_with fail
    refine (empty_looks H4.out tag i h32).1.mono ?_
    rintro e w7 ⟨rfl, rfl⟩
    go_wp2_with fail
    refine (empty_looks H4.out tag i h32).2.1.mono ?_
    rintro e w7 ⟨rfl, rfl⟩
    go_wp2_with fail
    refine (empty_looks H4.out tag i h32).2.2.1.mono ?_
    rintro e w7 ⟨F, c, rfl, h⟩
    have H7 := Lib.hid (H4.out.still h).1
    clear h
    go_wp2_with fail
    refine (empty_looks H7.out tag i h32).2.2.2.1.mono ?_
    rintro e w8 ⟨rfl, h⟩
    have H8 := Lib.hid (H7.out.still h).1
    clear h
    have HP := Lib.hid (empty_looks H8.out tag i h32).2.2.2.2
    rw [eh] at HP
    go_wp2_with fail
    refine HP.out.mono ?_
    rintro e w9 ⟨rfl, h⟩
    have H9 := Lib.hid h
    clear h
    go_wp2
    go_ret
    exact ⟨rfl, H9.out⟩
end Go.Proofs.Ytlmcodmglcmmoaa
