/- MixHomes, walked. -/
import Derived.Test.YthfnbijnfigolaaBack
namespace Go.Proofs.Ythfnbijnfigolaa
open Go Go.RowKit

theorem isSz_pow {i : Nat} (h : i < 31) : isSz (2 ^ i) = true := isSz_yes h rfl

theorem twice (m n : Int) (hn : 1 ≤ n) : m % (2 * n) = m % n ∨ m % (2 * n) = m % n + n := by
  have e := Int.mul_ediv_add_emod m (2 * n)
  have g0 : 0 ≤ m % (2 * n) := Int.emod_nonneg _ (by omega)
  have g1 : m % (2 * n) < 2 * n := Int.emod_lt_of_pos _ (by omega)
  have e2 : m % n = (m % (2 * n)) % n := (Int.emod_emod_of_dvd m (Int.dvd_mul_left 2 n)).symm
  rw [e2]
  generalize m % (2 * n) = g at g0 g1
  rcases Int.lt_or_le g n with h | h
  · left; exact (Int.emod_eq_of_lt g0 h).symm
  · right
    have : g % n = g - n := by
      rw [← Int.sub_emod_right]
      exact Int.emod_eq_of_lt (by omega) (by omega)
    omega

theorem size_of (i : Nat) (hi : i < 30) : ∃ n : Int, Hid (wrap64 ((2 : Int) ^ i) = n ∧ isSz n = true ∧ isSz (2 * n) = true ∧ 1 ≤ n ∧ 2 * n ≤ 1073741824) := by
  have hs1 : isSz ((2 : Int) ^ i) = true := isSz_pow (by omega)
  have hs2 : isSz (2 * (2 : Int) ^ i) = true := isSz_yes (k := i + 1) (by omega) (by rw [Int.pow_succ, Int.mul_comm])
  exact ⟨2 ^ i, Lib.hid ⟨wrap64_pow _ (by omega), hs1, hs2, (isSz_bounds hs1).1, (isSz_bounds hs2).2⟩⟩
theorem size_of1 (i : Nat) (hi : i < 31) : ∃ n : Int, Hid (wrap64 ((2 : Int) ^ i) = n ∧ isSz n = true ∧ 1 ≤ n ∧ n ≤ 1073741824) := by
  have hs1 : isSz ((2 : Int) ^ i) = true := isSz_pow (by omega)
  exact ⟨2 ^ i, Lib.hid ⟨wrap64_pow _ (by omega), hs1, (isSz_bounds hs1).1, (isSz_bounds hs1).2⟩⟩

theorem mixHomes_walk (a0 a1 : Int) (w0 : (Lit.int .u64 a0).wf = true) (w1 : (Lit.int .u8 a1).wf = true) (w : World) :
    Calls Try.prog 6 #[.int .u64 a0, .int .u8 a1] w fun e w' => e = .returned (.bool true) ∧ Grown w w' := by
  obtain ⟨k, rfl, hk⟩ := u64_nat w0
  obtain ⟨p, rfl, hp⟩ := u8_nat w1
  obtain ⟨n, hn⟩ := size_of (p % 30) (by omega)
  go_enter Try.func6, Try.ntmps6
  go_wp2_with fail
  refine (awake_walk _).mono ?_
  rintro e w' ⟨rfl, rfl⟩
  go_wp2_with fail
  obtain ⟨e0, hs1, hs2, n1, n3⟩ := hn.out
  rw [e0]
  clear hn e0
  have H1 := Lib.hid hs1
  have H2 := Lib.hid hs2
  clear hs1 hs2
  refine (home_yes _ k n H1.out).mono ?_
  rintro e w' ⟨rfl, rfl⟩
  have h0 : 0 ≤ (mixN k : Int) % n := Int.emod_nonneg _ (by omega)
  have h1 : (mixN k : Int) % n < n := Int.emod_lt_of_pos _ (by omega)
  have hg := Lib.hid (twice (mixN k) n n1)
  generalize (mixN k : Int) % n = h at h0 h1 hg ⊢
  go_wp2_with fail
  refine (home_yes _ k (2 * n) H2.out).mono ?_
  rintro e w' ⟨rfl, rfl⟩
  generalize (mixN k : Int) % (2 * n) = g at hg ⊢
  rcases hg.out with hgh | hgh
  · subst hgh
    clear hg
    go_wp2
    go_ret
    exact ⟨rfl, by repeat (first | exact Grown.refl _ | apply Grown.drew | apply Grown.alloc)⟩
  · subst hgh
    clear hg
    go_wp2
    go_ret
    exact ⟨rfl, by repeat (first | exact Grown.refl _ | apply Grown.drew | apply Grown.alloc)⟩
end Go.Proofs.Ythfnbijnfigolaa
