/- ArenaActs, walked. -/
import Derived.Test.YtdjokgjobkjdhaaRun
import Derived.Test.YtdjokgjobkjdhaaRowA
namespace Go.Proofs.Ytdjokgjobkjdhaa
open Go Go.RowKit Go.Deep

theorem actsAll_long (w : World) (r : Int) (A : Option Addr) (n c : Nat) (hn : 40 < n) (hm : n ≤ maxLen) :
    Calls Try.prog 4 #[.int .u8 r, .slice A n c] w fun e w' => e = .returned (.bool true) ∧ Below w.heap.size w w' := by
  unfold maxLen at hm
  go_enter Try.func4, Try.ntmps4
  go_wp2_with fail
  refine (awake_walk _).mono ?_
  rintro e w1 ⟨rfl, h⟩
  have B1 := Lib.hid h; clear h
  go_wp2
  go_ret
  exact ⟨rfl, B1.out⟩

set_option maxHeartbeats 1000000 in
theorem actsAll_short (w : World) (r : Nat) (hr : r < 256) (A : Option Addr) (n c : Nat) (l : Nat → Actn) (hn : n ≤ 40) (ha : Acts w A n l) :
    Calls Try.prog 4 #[.int .u8 r, .slice A n c] w fun e w' => e = .returned (.bool true) ∧ Below w.heap.size w w' := by
  have HA := Lib.hid ha
  clear ha
  go_enter Try.func4, Try.ntmps4
  go_wp2_with fail
  refine (awake_walk _).mono ?_
  rintro e w1 ⟨rfl, h⟩
  have B1 := Lib.hid h; clear h
  go_wp2_with fail
  refine (run_walk B1.out r hr A n c l hn HA.out).mono ?_
  rintro e w2 ⟨b, v, st, K, rfl, hp⟩
  have HH := Lib.hid hp.held
  have HRF := Lib.hid hp.ref
  have hsn := hp.n
  obtain ⟨_, Fo, fc, nb, nc, nd, rfl, _, _, _⟩ := hp.ref
  clear hp
  go_wp2_with fail
  obtain ⟨N, hN⟩ : ∃ N, st.n = N := ⟨_, rfl⟩
  have HN := Lib.hid hN
  rw [hN] at hsn ⊢
  rw [hN] at HRF
  clear hN
  go_loopg [9] (N + 2) (fun g s9 wr => ∃ k : Nat, k + g = N + 2 ∧ s9 = .int .i64 ((k : Int) - 1) ∧ Hid (Below (w2.heap.size + 1) (w2.alloc (.cells (refCells N st.used Fo st.freed.length fc nb (st.used + 1) nc) 31)) wr))
  case atStart => exact ⟨0, by omega, rfl, Lib.hid (Below.refl _ _)⟩
  case round =>
    obtain ⟨k, hk, rfl, HB⟩ := hrel
    have hb2 : Below w2.heap.size w2 wr := ((Below.refl _ _).alloc (Nat.le_refl _) _).trans (HB.out.mono (by omega))
    have hcB : wr.heap[w2.heap.size]? = _ := (HB.out.block w2.heap.size (by omega)).trans (heap_alloc_new w2 _)
    obtain ⟨b0, b1, b2, b3⟩ := four_cells hcB
    have hBz : w2.heap.size < wr.heap.size := (head_row hcB).lt
    have HB2 := Lib.hid hb2
    have HHr := Lib.hid (HH.out.still hb2).1
    have HRr := Lib.hid (HRF.out.below hb2)
    clear hb2 hcB
    by_cases hlt : k < N + 2
    · have hle : (k : Int) - 1 ≤ (N : Int) := by omega
      have e32 : IntKind.i32.wrap ((k : Int) - 1) = (k : Int) - 1 := by rw [IntKind.wrap_i32]; omega
      have hneq : ∀ w : World, (binOp .neq 36 (st.at_ ((k : Int) - 1)).v (st.at_ ((k : Int) - 1)).v).run Try.prog w = .ok (.bool false) w := node_neq _
      have HSW : Hid (∀ w' : World, Below wr.heap.size wr w' → w'.cell? ⟨w2.heap.size, 0, none⟩ = some (.int .i64 N) ∧ w'.cell? ⟨w2.heap.size, 1, none⟩ = some (.int .i64 st.used) ∧ w'.cell? ⟨w2.heap.size, 2, none⟩ = some (.slice Fo st.freed.length fc) ∧ w'.cell? ⟨w2.heap.size, 3, none⟩ = some (.slice (some ⟨nb, 0, none⟩) (st.used + 1) nc)) := Lib.hid (fun w' hh => by
        have e := fun (j : Nat) => hh.cell (p := ⟨w2.heap.size, j, none⟩) hBz
        exact ⟨(e 0).trans b0, (e 1).trans b1, (e 2).trans b2, (e 3).trans b3⟩)
      have hsn' : st.n ≤ 1000000 := by rw [HN.out]; omega
      have h32 : (k : Int) - 1 ≤ 2147483647 := by omega
      have HS := Lib.hid hsn'
      clear hsn'
      go_wp2_with fail
      go_region_held3 (fun w' => w'.cell? ⟨w2.heap.size, 0, none⟩ = some (.int .i64 N) ∧ w'.cell? ⟨w2.heap.size, 1, none⟩ = some (.int .i64 st.used) ∧ w'.cell? ⟨w2.heap.size, 2, none⟩ = some (.slice Fo st.freed.length fc) ∧ w'.cell? ⟨w2.heap.size, 3, none⟩ = some (.slice (some ⟨nb, 0, none⟩) (st.used + 1) nc))
        (first | exact kk9 | exact kk8 | exact kk7 | exact kk6 | exact kk5 | go_keep)
        (first
          | (go_at_call 14; refine (held_at (HHr.out.still (Below.refl _ _).drew).1 HS.out _ h32).mono ?_; rintro e w5 ⟨rfl, d5⟩; have a5 := (Below.refl wr.heap.size wr).drew.trans d5; have kk5 := HSW.out w5 a5)
          | (go_at_call 16; refine (rat_walk (HRr.out.below a5) HHr.out.ok HS.out _ h32).mono ?_; rintro e w6 ⟨rfl, d6⟩; have a6 := a5.trans (d6.mono a5.size); have kk6 := HSW.out w6 a6)
          | (go_at_call 15; refine (node_walk _ _).mono ?_; rintro e w7 ⟨rfl, d7⟩; have a7 := a6.trans (d7.mono a6.size); have kk7 := HSW.out w7 a7)
          | (go_at_call 17; refine (held_is (HHr.out.still a7).1 HS.out _ h32).mono ?_; rintro e w8 ⟨rfl, rfl⟩; have kk8 := kk7)
          | (go_at_call 18; refine (ris_walk (HRr.out.below a7) HHr.out.ok HS.out _ h32).mono ?_; rintro e w9 ⟨rfl, d9⟩; have a9 := a7.trans (d9.mono a7.size); have kk9 := HSW.out w9 a9))
      have HB9 : Hid (Below (w2.heap.size + 1) (w2.alloc (.cells (refCells N st.used Fo st.freed.length fc nb (st.used + 1) nc) 31)) w9) := Lib.hid (HB.out.trans (a9.mono (by omega)))
      clear a5 a6 a7 a9 d5 d6 d7 d9 kk5 kk6 kk7 kk8 kk9 hneq
      go_wp2
      go_roundg (gk - 1)
      case measure => omega
      case rel => exact ⟨k + 1, by omega, congrArg (Value.int .i64) (by omega), HB9⟩
    · have hgt : ¬ ((k : Int) - 1 ≤ (N : Int)) := by omega
      go_wp2
      go_ret
      exact ⟨rfl, HHr.out.below⟩
theorem arenaActs_walk (w : World) (r : Int) (hr : (Lit.int .u8 r).wf = true) (A : Option Addr) (n c : Nat) (l : Nat → Actn) (hm : n ≤ maxLen) (ha : Acts w A n l) :
    Calls Try.prog 4 #[.int .u8 r, .slice A n c] w fun e w' => e = .returned (.bool true) ∧ Below w.heap.size w w' := by
  by_cases hn : n ≤ 40
  · simp only [Lit.wf, Bool.and_eq_true, decide_eq_true_eq] at hr
    have m1 : IntKind.u8.min = 0 := rfl
    have m2 : IntKind.u8.max = 255 := rfl
    obtain ⟨k, rfl⟩ : ∃ k : Nat, r = k := ⟨r.toNat, by omega⟩
    exact actsAll_short w k (by omega) A n c l hn ha
  · exact actsAll_long w r A n c (by omega) hm
end Go.Proofs.Ytdjokgjobkjdhaa
