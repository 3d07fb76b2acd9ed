/- Which numbers are sizes: package mix's isSize, and the document's own Size. -/
import Derived.Test.YtdjokgjobkjdhaaMixS
import Derived.Lib.Hide
import Derived.Deep.LoopGhost
namespace Go.Proofs.Ytdjokgjobkjdhaa
open Go Go.RowKit

def isSz (s : Int) : Bool := (List.range 31).any fun i => s == 2 ^ i
theorem isSz_iff (s : Int) : isSz s = true ↔ ∃ i, i < 31 ∧ s = 2 ^ i := by simp [isSz]
theorem isSz_yes {s : Int} {k : Nat} (hk : k < 31) (h : s = 2 ^ k) : isSz s = true := (isSz_iff s).2 ⟨k, hk, h⟩
theorem isSz_no {s : Int} (h : ∀ j, j < 31 → s ≠ 2 ^ j) : isSz s = false := by
  cases e : isSz s
  · rfl
  · obtain ⟨i, hi, hs⟩ := (isSz_iff s).1 e
    exact absurd hs (h i hi)
theorem wrap64_pow : ∀ k, k < 31 → wrap64 ((2 : Int) ^ k) = 2 ^ k := by decide +kernel
theorem pow_le30 : ∀ k, k < 31 → (2 : Int) ^ k ≤ 1073741824 := by decide +kernel
theorem pow_pos2 (k : Nat) : (0 : Int) < 2 ^ k := Int.pow_pos (by decide)
theorem pow_lt {i j : Nat} (h : i < j) : (2 : Int) ^ i < 2 ^ j := Int.pow_lt_pow_of_lt (by decide) h

theorem isSz_at {s x : Int} {k : Nat} (hk : k < 31) (hx : x = 2 ^ k) (hN : ∀ j, j < k → (2 : Int) ^ j < s) (h : s ≤ x ∨ 1073741824 ≤ x) : (s == x) = isSz s := by
  by_cases e : s = x
  · rw [isSz_yes hk (e.trans hx), e]; exact beq_self_eq_true x
  · rw [isSz_no, beq_eq_false_iff_ne.2 e]
    intro j hj hs
    rcases Nat.lt_trichotomy j k with h1 | h1 | h1
    · have := hN j h1; omega
    · subst h1; exact e (hs.trans hx.symm)
    · have h2 := pow_lt h1
      rcases h with h | h
      · omega
      · have := pow_le30 j hj; omega

theorem isSize_walk (w : World) (s : Int) :
    Calls Try.prog 30 #[.int .i64 s] w fun e w' => e = .returned (.bool (isSz s)) ∧ w = w' := by
  go_enter Try.func30, Try.ntmps30
  go_wp2
  go_loop [4] (fun i => ∃ k : Nat, k ≤ 31 ∧ i = .int .i64 k ∧ Hid (∀ j, j < k → s ≠ 2 ^ j)) (fun i => 31 - (intOf i).toNat)
  case atStart => exact ⟨0, by omega, rfl, Lib.hid (fun j hj => by omega)⟩
  case round =>
    obtain ⟨k, hk, rfl, hN⟩ := hrel
    go_wp2
    · have hlt : k < 31 := by omega
      have hq : (s == wrap64 (2 ^ k)) = true := by assumption
      rw [wrap64_pow k hlt] at hq
      have hy := isSz_yes hlt (by simpa using hq)
      go_ret
      exact ⟨congrArg (fun b => Ending.returned (Value.bool b)) hy.symm, rfl⟩
    · have hlt : k < 31 := by omega
      have hq : (s == wrap64 (2 ^ k)) = false := by assumption
      rw [wrap64_pow k hlt] at hq
      go_round
      case rel =>
        refine ⟨k + 1, by omega, by go_num, Lib.hid fun j hj => ?_⟩
        rcases Nat.lt_or_ge j k with h | h
        · exact hN.out j h
        · obtain rfl : j = k := by omega
          simpa using hq
      case measure => simp only [intOf]; omega
    · have hge : ¬ ((k : Int) < 31) := by first | assumption | omega
      obtain rfl : k = 31 := by omega
      have hy := isSz_no hN.out
      go_ret
      exact ⟨congrArg (fun b => Ending.returned (Value.bool b)) hy.symm, rfl⟩

theorem size_walk (w : World) (s : Int) :
    Calls Try.prog 31 #[.int .i64 s] w fun e w' => e = .returned (.bool (isSz s)) ∧ w = w' := by
  go_enter Try.func31, Try.ntmps31
  go_wp2
  go_loopg [3] 30 (fun g p wr => ∃ (k : Nat) (x : Int), k + g = 30 ∧ p = .int .i64 x ∧ 1 ≤ x ∧ x ≤ 1073741824 ∧ Hid (x = 2 ^ k ∧ ∀ j, j < k → (2 : Int) ^ j < s) ∧ wr = w)
  case atStart => exact ⟨0, 1, by omega, rfl, by omega, by omega, Lib.hid ⟨rfl, fun j hj => by omega⟩, rfl⟩
  case round =>
    obtain ⟨k, x, hk, rfl, hx1, hx2, hN, rfl⟩ := hrel
    go_wp2
    · have h1 : x < s := by assumption
      have h2 : x < 1073741824 := by assumption
      obtain ⟨hx, hj⟩ := hN.out
      have hk30 : k < 30 := by
        rcases Nat.lt_or_ge k 30 with h | h
        · exact h
        · obtain rfl : k = 30 := by omega
          have : (2 : Int) ^ 30 = 1073741824 := by decide
          omega
      go_roundg (gk - 1)
      case measure => omega
      case rel =>
        refine ⟨k + 1, 2 * x, by omega, rfl, by omega, by have := pow_le30 (k + 1) (by omega); rw [Int.pow_succ] at this; omega, Lib.hid ⟨by rw [hx, Int.pow_succ, Int.mul_comm], fun j h => ?_⟩, rfl⟩
        rcases Nat.lt_or_ge j k with h3 | h3
        · exact hj j h3
        · obtain rfl : j = k := by omega
          omega
    all_goals
      obtain ⟨hx, hj⟩ := hN.out
      have hy := isSz_at (by omega) hx hj (by omega)
      go_ret
      exact ⟨congrArg (fun b => Ending.returned (Value.bool b)) hy, rfl⟩
end Go.Proofs.Ytdjokgjobkjdhaa
