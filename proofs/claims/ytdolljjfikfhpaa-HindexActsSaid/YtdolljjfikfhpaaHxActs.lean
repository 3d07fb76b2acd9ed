/- HindexActs: whether it was done, how many keys, and slots, there are; and what each slot has at the end. -/
import Derived.Test.YtdolljjfikfhpaaHxU
namespace Go.Proofs.Ytdolljjfikfhpaa
open Go Go.RowKit Go.Deep

set_option maxHeartbeats 2000000 in
theorem acts_short (w : World) (A : Option Addr) (n c : Nat) (l : Nat → Actx) (hn : n ≤ 50) (ha : ActsX w A n l) :
    Calls Try.prog 3 #[.slice A n c] w fun e w' => e = .returned (.bool true) ∧ Below w.heap.size w w' := by
  have HA := Lib.hid ha
  clear ha
  go_enter Try.func3, Try.ntmps3
  go_wp2_with fail
  refine (awake_walk _).mono ?_
  rintro e w1 ⟨rfl, h⟩
  have B1 := Lib.hid h; clear h
  go_wp2_with fail
  refine (run_walk B1.out A n c l hn HA.out).mono ?_
  rintro e w2 ⟨p, T, gu, cu, rfl, hx, hr, hrun⟩
  have hTn : T.n ≤ 158 := by have := hrun.n; omega
  have hTI : (T.n : Int) ≤ 158 := by omega
  have ba := (Below.refl w2.heap.size w2).alloc (Nat.le_refl _) (.cells #[.slice (some ⟨gu, 0, none⟩) T.n cu] 27)
  have H3 := Lib.hid (hx.still ba).1
  have R3 := Lib.hid (hr.below ba)
  have C3 := Lib.hid (heap_alloc_new w2 (.cells #[.slice (some ⟨gu, 0, none⟩) T.n cu] 27))
  clear hx hr hrun ba
  go_wp2_with fail
  generalize w2.alloc (.cells #[.slice (some ⟨gu, 0, none⟩) T.n cu] 27) = w3 at H3 R3 C3 ⊢
  generalize w2.heap.size = b5 at C3 ⊢
  go_loopg [7] (T.n + 2) (fun gg s7 wr => ∃ j : Nat, j + gg = T.n + 2 ∧ s7 = .int .i64 ((j : Int) - 1) ∧ Hid (HX w wr p T [gu] ∧ Below w3.heap.size w3 wr))
  case atStart => exact ⟨0, by omega, rfl, Lib.hid ⟨H3.out, Below.refl _ _⟩⟩
  case round =>
    obtain ⟨j, hj, rfl, HI⟩ := hrel
    have c0 : wr.cell? ⟨b5, 0, none⟩ = some (.slice (some ⟨gu, 0, none⟩) T.n cu) := (head_row ((HI.out.2.block b5 (head_row C3.out).lt).trans C3.out)).cell (i := 0) (by simp)
    by_cases hend : j = T.n + 2
    · have hge : ¬ ((j : Int) - 1 ≤ (T.n : Int)) := by omega
      have HB := Lib.hid HI.out.1.below
      go_wp2
      go_ret
      exact ⟨rfl, HB.out⟩
    · have hle : ((j : Int) - 1 ≤ (T.n : Int)) := by omega
      have h5 : b5 < wr.heap.size := Nat.lt_of_lt_of_le (head_row C3.out).lt HI.out.2.size
      by_cases hin : 1 ≤ j ∧ j ≤ T.n
      · obtain ⟨i, rfl⟩ : ∃ i, j = i + 1 := ⟨j - 1, by omega⟩
        have e1 : (((i + 1 : Nat) : Int) - 1) = (i : Int) := by omega
        rw [e1]
        have hil : i < T.n := by omega
        have hiI : (i : Int) < (T.n : Int) := by omega
        have HS := Lib.hid (hx_slot HI.out.1 i hil)
        have HRS := Lib.hid (fun w' (b : Below wr.heap.size wr w') => ((R3.out.below HI.out.2).below b).sl i hil)
        obtain ⟨s, hs⟩ : ∃ s, T.sl i = s := ⟨_, rfl⟩
        rw [hs] at HS HRS
        obtain ⟨sk, sn, sf⟩ := s
        clear hs
        go_wp2_with fail
        refine HS.out.mono ?_
        rintro e w4 ⟨rfl, hb⟩
        have H4 := Lib.hid (And.intro (HI.out.1.still hb).1 (HI.out.2.trans (hb.mono HI.out.2.size)))
        obtain ⟨q0, q1, q2⟩ := HRS.out w4 hb
        have c0 : w4.cell? ⟨b5, 0, none⟩ = some (.slice (some ⟨gu, 0, none⟩) T.n cu) := (hb.cell (p := ⟨b5, 0, none⟩) h5).trans c0
        have h54 : b5 < w4.heap.size := Nat.lt_of_lt_of_le h5 hb.size
        have hg4 : gu < w4.heap.size := H4.out.1.old _ (by simp)
        clear hb HS HRS
        have HN := Lib.hid (And.intro (H4.out.1.still ((Below.refl _ _).alloc (Nat.le_refl _) (.cells #[.int .u64 (sk : Nat), .int .i32 sn, .bool sf] 34))).1 (H4.out.2.alloc H4.out.2.size (.cells #[.int .u64 (sk : Nat), .int .i32 sn, .bool sf] 34)))
        go_wp2_with fail
        go_roundg (gk - 1)
        case measure => omega
        case rel => exact ⟨i + 1 + 1, by omega, congrArg (Value.int .i64) (by omega), HN⟩
      · have hno : ((j : Int) - 1 < 0 ∨ (T.n : Int) ≤ (j : Int) - 1) := by omega
        have HS := Lib.hid (hx_noslot HI.out.1 ((j : Int) - 1) hno)
        go_wp2_with fail
        refine HS.out.mono ?_
        rintro e w4 ⟨rfl, hb⟩
        have H4 := Lib.hid (And.intro (HI.out.1.still hb).1 (HI.out.2.trans (hb.mono HI.out.2.size)))
        have c0 : w4.cell? ⟨b5, 0, none⟩ = some (.slice (some ⟨gu, 0, none⟩) T.n cu) := (hb.cell (p := ⟨b5, 0, none⟩) h5).trans c0
        have h54 : b5 < w4.heap.size := Nat.lt_of_lt_of_le h5 hb.size
        clear hb HS
        rcases hno with h0 | h0
        · have HN := Lib.hid (And.intro (H4.out.1.still ((Below.refl _ _).alloc (Nat.le_refl _) (.cells #[.int .u64 0, .int .i32 0, .bool false] 34))).1 (H4.out.2.alloc H4.out.2.size (.cells #[.int .u64 0, .int .i32 0, .bool false] 34)))
          go_wp2_with fail
          go_roundg (gk - 1)
          case measure => omega
          case rel => exact ⟨j + 1, by omega, congrArg (Value.int .i64) (by omega), HN⟩
        · have h00 : ¬ ((j : Int) - 1 < 0) := by omega
          have h01 : ¬ ((j : Int) - 1 < (T.n : Int)) := by omega
          have HN := Lib.hid (And.intro (H4.out.1.still ((Below.refl _ _).alloc (Nat.le_refl _) (.cells #[.int .u64 0, .int .i32 0, .bool false] 34))).1 (H4.out.2.alloc H4.out.2.size (.cells #[.int .u64 0, .int .i32 0, .bool false] 34)))
          go_wp2_with fail
          go_roundg (gk - 1)
          case measure => omega
          case rel => exact ⟨j + 1, by omega, congrArg (Value.int .i64) (by omega), HN⟩
theorem acts_long (w : World) (A : Option Addr) (n c : Nat) (hn : 50 < n) :
    Calls Try.prog 3 #[.slice A n c] w fun e w' => e = .returned (.bool true) ∧ Below w.heap.size w w' := by
  have h1 : (50 : Int) < (n : Int) := by omega
  go_enter Try.func3, Try.ntmps3
  go_wp2_with fail
  refine (awake_walk _).mono ?_
  rintro e w1 ⟨rfl, h⟩
  have B1 := Lib.hid h
  clear h
  go_wp2
  go_ret
  exact ⟨rfl, B1.out⟩
theorem hindexActs_walk (w : World) (A : Option Addr) (n c : Nat) (l : Nat → Actx) (ha : ActsX w A n l) :
    Calls Try.prog 3 #[.slice A n c] w fun e w' => e = .returned (.bool true) ∧ Below w.heap.size w w' := by
  by_cases hn : n ≤ 50
  · exact acts_short w A n c l hn ha
  · exact acts_long w A n c (by omega)
end Go.Proofs.Ytdolljjfikfhpaa
