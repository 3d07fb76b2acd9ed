/- Mix and Unmix undo each other. -/
import Derived.Test.YthfnbijnfigolaaHome
namespace Go.Proofs.Ythfnbijnfigolaa
open Go Go.RowKit

theorem fold_fold (x : Nat) (h : x < 18446744073709551616) : fold (fold x) = x := by
  have e : (4294967296 : Nat) = 2 ^ 32 := by decide
  have h64 : x < 2 ^ 64 := h
  unfold fold
  rw [e]
  apply Nat.eq_of_testBit_eq
  intro i
  simp only [Nat.testBit_xor, Nat.testBit_div_two_pow]
  have hz : x.testBit (i + 32 + 32) = false := Nat.testBit_lt_two_pow (Nat.lt_of_lt_of_le h64 (Nat.pow_le_pow_right (by decide) (by omega)))
  have hz2 : x.testBit (32 + (32 + i)) = false := by rw [← hz]; congr 1; omega
  first
    | (rw [hz]; simp)
    | (rw [hz2]; simp)
    | simp [hz, hz2]

theorem unmix_mix (k : Nat) (hk : k < 18446744073709551616) : unmixN (mixN k) = k := by
  unfold unmixN mixN
  rw [fold_fold _ (Nat.mod_lt _ (by decide)), Nat.mod_mul_mod, Nat.mul_assoc, show 11400714819323198485 * 17428512612931826493 = 18446744073709551616 * (11400714819323198485 * 17428512612931826493 / 18446744073709551616) + 1 by decide +kernel]
  generalize 11400714819323198485 * 17428512612931826493 / 18446744073709551616 = c
  rw [Nat.mul_add, Nat.mul_one, ← Nat.mul_assoc, Nat.mul_comm k, Nat.mul_assoc, Nat.mul_add_mod]
  exact Nat.mod_eq_of_lt hk

theorem mix_unmix (k : Nat) (hk : k < 18446744073709551616) : mixN (unmixN k) = k := by
  unfold unmixN mixN
  rw [Nat.mod_mul_mod, Nat.mul_assoc, show 17428512612931826493 * 11400714819323198485 = 18446744073709551616 * (17428512612931826493 * 11400714819323198485 / 18446744073709551616) + 1 by decide +kernel]
  generalize 17428512612931826493 * 11400714819323198485 / 18446744073709551616 = c
  rw [Nat.mul_add, Nat.mul_one, ← Nat.mul_assoc, Nat.mul_comm (fold k), Nat.mul_assoc, Nat.mul_add_mod, Nat.mod_eq_of_lt (fold_lt k hk)]
  exact fold_fold k hk

theorem mix_inj {a b : Nat} (ha : a < 18446744073709551616) (hb : b < 18446744073709551616) (h : mixN a = mixN b) : a = b := by
  rw [← unmix_mix a ha, ← unmix_mix b hb, h]

theorem u64_nat {a : Int} (h : (Lit.int .u64 a).wf = true) : ∃ n : Nat, a = n ∧ n < 18446744073709551616 := by
  simp only [Lit.wf, Bool.and_eq_true, decide_eq_true_eq] at h
  have h1 : IntKind.u64.min = 0 := rfl
  have h2 : IntKind.u64.max = 18446744073709551615 := rfl
  exact ⟨a.toNat, by omega, by omega⟩
theorem u32_nat {a : Int} (h : (Lit.int .u32 a).wf = true) : ∃ n : Nat, a = n ∧ n < 4294967296 := by
  simp only [Lit.wf, Bool.and_eq_true, decide_eq_true_eq] at h
  have h1 : IntKind.u32.min = 0 := rfl
  have h2 : IntKind.u32.max = 4294967295 := rfl
  exact ⟨a.toNat, by omega, by omega⟩
theorem u8_nat {a : Int} (h : (Lit.int .u8 a).wf = true) : ∃ n : Nat, a = n ∧ n < 256 := by
  simp only [Lit.wf, Bool.and_eq_true, decide_eq_true_eq] at h
  have h1 : IntKind.u8.min = 0 := rfl
  have h2 : IntKind.u8.max = 255 := rfl
  exact ⟨a.toNat, by omega, by omega⟩
end Go.Proofs.Ythfnbijnfigolaa
