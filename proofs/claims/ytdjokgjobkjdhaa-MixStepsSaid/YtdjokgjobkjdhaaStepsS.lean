/- MixSteps, walked. -/
import Derived.Test.YtdjokgjobkjdhaaHomeS
import Derived.Deep.RegionHeld3
import Derived.Below
import Derived.IntWalk
namespace Go.Proofs.Ytdjokgjobkjdhaa
open Go Go.RowKit

theorem isSz_pow {i : Nat} (h : i < 31) : isSz (2 ^ i) = true := isSz_yes h rfl

theorem size_of1 (i : Nat) (hi : i < 31) : ∃ n : Int, Hid (wrap64 ((2 : Int) ^ i) = n ∧ isSz n = true ∧ 1 ≤ n ∧ n ≤ 1073741824) := by
  have hs1 : isSz ((2 : Int) ^ i) = true := isSz_pow (by omega)
  exact ⟨2 ^ i, Lib.hid ⟨wrap64_pow _ (by omega), hs1, (isSz_bounds hs1).1, (isSz_bounds hs1).2⟩⟩

theorem u32_nat {a : Int} (h : (Lit.int .u32 a).wf = true) : ∃ n : Nat, a = n ∧ n < 4294967296 := by
  simp only [Lit.wf, Bool.and_eq_true, decide_eq_true_eq] at h
  have h1 : IntKind.u32.min = 0 := rfl
  have h2 : IntKind.u32.max = 4294967295 := rfl
  exact ⟨a.toNat, by omega, by omega⟩
theorem u8_nat {a : Int} (h : (Lit.int .u8 a).wf = true) : ∃ n : Nat, a = n ∧ n < 256 := by
  simp only [Lit.wf, Bool.and_eq_true, decide_eq_true_eq] at h
  have h1 : IntKind.u8.min = 0 := rfl
  have h2 : IntKind.u8.max = 255 := rfl
  exact ⟨a.toNat, by omega, by omega⟩
/- From one place to another, and back: what the law asks of the numbers. -/
theorem steps (x y n : Int) (hy0 : 0 ≤ y) (hy : y < n) :
    (x + (y - x) % n) % n = y ∧ ((y - x) % n + (x - y) % n) % n = 0 ∧ ((y - x) % n + 1) % n = ((y + 1) % n - x) % n := by
  refine ⟨?_, ?_, ?_⟩
  · rw [Int.add_emod_emod, show x + (y - x) = y by omega]
    exact Int.emod_eq_of_lt hy0 hy
  · rw [← Int.add_emod, show y - x + (x - y) = 0 by omega]; simp
  · rw [Int.emod_sub_emod, Int.emod_add_emod, show y - x + 1 = y + 1 - x by omega]

/- All that the law's last statement asks, of two places: the three calls, and the sums. -/
def StepFacts (x y n d d' z d'' : Int) : Prop :=
  (∀ w, Calls Try.prog 10 #[.int .i64 x, .int .i64 y, .int .i64 n] w fun e w' => e = .returned (.int .i64 d) ∧ w' = w) ∧
  (∀ w, Calls Try.prog 11 #[.int .i64 x, .int .i64 y, .int .i64 n] w fun e w' => e = .returned (.int .i64 d) ∧ w' = w) ∧
  (∀ w, Calls Try.prog 10 #[.int .i64 y, .int .i64 x, .int .i64 n] w fun e w' => e = .returned (.int .i64 d') ∧ w' = w) ∧
  (∀ w, Calls Try.prog 10 #[.int .i64 x, .int .i64 z, .int .i64 n] w fun e w' => e = .returned (.int .i64 d'') ∧ w' = w) ∧
  ¬ n = 0 ∧ IntKind.i64.wrap (x + d) = x + d ∧ IntKind.i64.wrap (d + d') = d + d' ∧ IntKind.i64.wrap (y + 1) = y + 1 ∧ IntKind.i64.wrap (d + 1) = d + 1 ∧
  (x + d).tmod n = y ∧ (d + d').tmod n = 0 ∧ (y + 1).tmod n = z ∧ (d + 1).tmod n = d''

theorem stepFacts (x y n : Int) (hs : isSz n = true) (hx0 : 0 ≤ x) (hx : x < n) (hy0 : 0 ≤ y) (hy : y < n) :
    ∃ d d' z d'' : Int, Hid (StepFacts x y n d d' z d'') := by
  obtain ⟨n1, n2⟩ := isSz_bounds hs
  obtain ⟨e1, e2, e3⟩ := steps x y n hy0 hy
  have z0 : 0 ≤ (y + 1) % n := Int.emod_nonneg _ (by omega)
  have z1 : (y + 1) % n < n := Int.emod_lt_of_pos _ (by omega)
  have d0 : 0 ≤ (y - x) % n := Int.emod_nonneg _ (by omega)
  have d1 : (y - x) % n < n := Int.emod_lt_of_pos _ (by omega)
  have d2 : 0 ≤ (x - y) % n := Int.emod_nonneg _ (by omega)
  have d3 : (x - y) % n < n := Int.emod_lt_of_pos _ (by omega)
  exact ⟨(y - x) % n, (x - y) % n, (y + 1) % n, ((y + 1) % n - x) % n, Lib.hid
    ⟨fun w => (apart_yes w x y n hs hx0 hx hy0 hy).mono (fun _ _ ⟨a, b⟩ => ⟨a, b.symm⟩),
     fun w => (rapart_yes w x y n hs hx0 hx hy0 hy).mono (fun _ _ ⟨a, b⟩ => ⟨a, b.symm⟩),
     fun w => (apart_yes w y x n hs hy0 hy hx0 hx).mono (fun _ _ ⟨a, b⟩ => ⟨a, b.symm⟩),
     fun w => (apart_yes w x _ n hs hx0 hx z0 z1).mono (fun _ _ ⟨a, b⟩ => ⟨a, b.symm⟩),
     by omega, IntWalk.i64_in _ (by omega), IntWalk.i64_in _ (by omega), IntWalk.i64_in _ (by omega), IntWalk.i64_in _ (by omega),
     (Int.tmod_eq_emod_of_nonneg (by omega)).trans e1, (Int.tmod_eq_emod_of_nonneg (by omega)).trans e2, Int.tmod_eq_emod_of_nonneg (by omega), (Int.tmod_eq_emod_of_nonneg (by omega)).trans e3⟩⟩


set_option maxHeartbeats 1000000 in
theorem mixSteps_walk (a0 a1 a2 : Int) (w0 : (Lit.int .u32 a0).wf = true) (w1 : (Lit.int .u32 a1).wf = true) (w2 : (Lit.int .u8 a2).wf = true) (w : World) :
    Calls Try.prog 3 #[.int .u32 a0, .int .u32 a1, .int .u8 a2] w fun e w' => e = .returned (.bool true) ∧ Below w.heap.size w w' := by
  obtain ⟨a, rfl, ha⟩ := u32_nat w0
  obtain ⟨b, rfl, hb⟩ := u32_nat w1
  obtain ⟨p, rfl, hp⟩ := u8_nat w2
  obtain ⟨n, hn⟩ := size_of1 (p % 31) (by omega)
  clear w0 w1 w2
  go_enter Try.func3, Try.ntmps3
  go_wp2_with fail
  refine (awake_walk _).mono ?_
  rintro e w' ⟨rfl, rfl⟩
  have HBW : Hid (Below w.heap.size w ((((w.alloc box).alloc box).alloc box).alloc box)) := Lib.hid (((((Below.refl _ _).alloc (Nat.le_refl _) _).alloc (by simp) _).alloc (by simp; omega) _).alloc (by simp; omega) _)
  generalize (((w.alloc box).alloc box).alloc box).alloc box = W at HBW ⊢
  obtain ⟨e0, hs1, n1, n3⟩ := hn.out
  clear hn
  go_wp2_with fail
  rw [e0]
  clear e0
  have hx0 : 0 ≤ (a : Int) % n := Int.emod_nonneg _ (by omega)
  have hx1 : (a : Int) % n < n := Int.emod_lt_of_pos _ (by omega)
  have hy0 : 0 ≤ (b : Int) % n := Int.emod_nonneg _ (by omega)
  have hy1 : (b : Int) % n < n := Int.emod_lt_of_pos _ (by omega)
  generalize (a : Int) % n = x at hx0 hx1 ⊢
  generalize (b : Int) % n = y at hy0 hy1 ⊢
  obtain ⟨dd, d', z, d'', HF⟩ := stepFacts x y n hs1 hx0 hx1 hy0 hy1
  clear hs1
  refine (HF.out.1 _).mono ?_
  rintro e w' ⟨rfl, rfl⟩
  go_wp2_with fail
  obtain ⟨f1, f2, f3, f4, g0, g1, g2, g3, g4, g5, g6, g7, g8⟩ := HF.out
  have F2 := Lib.hid f2
  have F3 := Lib.hid f3
  have F4 := Lib.hid f4
  clear HF f1 f2 f3 f4 n1 n3 hx0 hx1 hy0 hy1 ha hb hp
  go_region_held3 (fun _ => True) (exact trivial)
    (first
      | (go_at_call 11; (with_reducible refine (F2.out _).mono ?_); rintro e w9 ⟨rfl, rfl⟩)
      | (go_at_call 10; (with_reducible refine (F3.out _).mono ?_); rintro e w9 ⟨rfl, rfl⟩)
      | (go_at_call 10; (with_reducible refine (F4.out _).mono ?_); rintro e w9 ⟨rfl, rfl⟩))
  clear g0 g1 g2 g3 g4 g5 g6 g7 g8 F2 F3 F4
  go_wp2
  go_ret
  exact ⟨rfl, HBW.out.drew⟩
end Go.Proofs.Ytdjokgjobkjdhaa
