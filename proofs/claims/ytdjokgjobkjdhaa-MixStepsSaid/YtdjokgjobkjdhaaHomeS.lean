/- Home and Apart, of package mix and of the document, and the laws' awake. -/
import Derived.Test.YtdjokgjobkjdhaaSizeS
namespace Go.Proofs.Ytdjokgjobkjdhaa
open Go Go.RowKit

def box : Obj := .cells #[.int .i64 32] 3

theorem isSz_bounds {s : Int} (h : isSz s = true) : 1 ≤ s ∧ s ≤ 1073741824 := by
  obtain ⟨i, hi, rfl⟩ := (isSz_iff s).1 h
  have := pow_pos2 i
  exact ⟨by omega, pow_le30 i hi⟩

theorem isSize_is (w : World) (s : Int) (b : Bool) (h : isSz s = b) :
    Calls Try.prog 30 #[.int .i64 s] w fun e w' => e = .returned (.bool b) ∧ w = w' := h ▸ isSize_walk w s
theorem size_is (w : World) (s : Int) (b : Bool) (h : isSz s = b) :
    Calls Try.prog 31 #[.int .i64 s] w fun e w' => e = .returned (.bool b) ∧ w = w' := h ▸ size_walk w s

theorem home_no (w : World) (k : Nat) (s : Int) (h : isSz s = false) :
    Calls Try.prog 29 #[.int .u64 (k : Int), .int .i64 s] w fun e w' => e = .returned (.int .i64 0) ∧ w = w' := by
  have H := Lib.hid h
  clear h
  go_enter Try.func29, Try.ntmps29
  go_wp2_with fail
  refine (isSize_is _ _ false H.out).mono ?_
  rintro e w' ⟨rfl, rfl⟩
  go_wp2
  go_ret
  exact ⟨rfl, rfl⟩

theorem home_yes (w : World) (k : Nat) (s : Int) (h : isSz s = true) :
    Calls Try.prog 29 #[.int .u64 (k : Int), .int .i64 s] w fun e w' => e = .returned (.int .i64 ((mixN k : Int) % s)) ∧ w' = w.alloc box := by
  obtain ⟨h1, h2⟩ := isSz_bounds h
  have H := Lib.hid h
  clear h
  have hm := mixN_lt k
  have e1 : IntKind.u64.wrap s = s := by rw [IntKind.wrap_u64]; omega
  have e2 : (mixN k : Int).tmod s = (mixN k : Int) % s := Int.tmod_eq_emod_of_nonneg (by omega)
  have e3 : 0 ≤ (mixN k : Int) % s := Int.emod_nonneg _ (by omega)
  have e4 : (mixN k : Int) % s < s := Int.emod_lt_of_pos _ (by omega)
  go_enter Try.func29, Try.ntmps29
  go_wp2_with fail
  refine (isSize_is _ _ true H.out).mono ?_
  rintro e w' ⟨rfl, rfl⟩
  go_wp2_with fail
  refine (mix_walk _ k).mono ?_
  rintro e w' ⟨rfl, rfl⟩
  go_wp2
  go_ret
  exact ⟨rfl, rfl⟩

theorem apart_no (w : World) (x y s : Int) (h : isSz s = false) :
    Calls Try.prog 10 #[.int .i64 x, .int .i64 y, .int .i64 s] w fun e w' => e = .returned (.int .i64 0) ∧ w = w' := by
  have H := Lib.hid h
  clear h
  go_enter Try.func10, Try.ntmps10
  go_wp2_with fail
  refine (isSize_is _ _ false H.out).mono ?_
  rintro e w' ⟨rfl, rfl⟩
  go_wp2
  go_ret
  exact ⟨rfl, rfl⟩

theorem and_mask (n : Int) (i : Nat) (hi : i < 31) : bits .and .i64 n (2 ^ i - 1) = n % 2 ^ i := by
  have hp := pow_le30 i hi
  have hq := pow_pos2 i
  have hm : (BitVec.ofInt 64 ((2 : Int) ^ i - 1)).toNat = 2 ^ i - 1 := by
    rw [BitVec.toNat_ofInt]
    have e : ((2 : Int) ^ i) = ((2 ^ i : Nat) : Int) := by simp
    rw [e] at hp hq ⊢
    omega
  have key : (BitVec.ofInt 64 n &&& BitVec.ofInt 64 ((2 : Int) ^ i - 1)).toNat = (n % ((2 ^ 64 : Nat) : Int)).toNat % 2 ^ i := by
    rw [BitVec.toNat_and, BitVec.toNat_ofInt, hm, Nat.and_two_pow_sub_one_eq_mod]
  have e0 : 0 ≤ n % ((2 ^ 64 : Nat) : Int) := Int.emod_nonneg _ (by decide)
  have e1 : (((n % ((2 ^ 64 : Nat) : Int)).toNat % 2 ^ i : Nat) : Int) = n % 2 ^ i := by
    rw [Int.natCast_emod, Int.toNat_of_nonneg e0]
    have hd : ((2 ^ i : Nat) : Int) ∣ ((2 ^ 64 : Nat) : Int) := Int.natCast_dvd_natCast.2 (Nat.pow_dvd_pow 2 (by omega))
    rw [Int.emod_emod_of_dvd n hd]
    simp
  show IntKind.i64.wrap ((BitVec.ofInt 64 n &&& BitVec.ofInt 64 ((2 : Int) ^ i - 1)).toNat : Nat) = n % 2 ^ i
  rw [key, e1, IntKind.wrap_i64]
  have v0 : 0 ≤ n % 2 ^ i := Int.emod_nonneg _ (by omega)
  have v1 : n % 2 ^ i < 2 ^ i := Int.emod_lt_of_pos _ hq
  omega

theorem apart_yes (w : World) (x y s : Int) (h : isSz s = true) (hx0 : 0 ≤ x) (hx : x < s) (hy0 : 0 ≤ y) (hy : y < s) :
    Calls Try.prog 10 #[.int .i64 x, .int .i64 y, .int .i64 s] w fun e w' => e = .returned (.int .i64 ((y - x) % s)) ∧ w = w' := by
  obtain ⟨h1, h2⟩ := isSz_bounds h
  have H := Lib.hid h
  clear h
  go_enter Try.func10, Try.ntmps10
  go_wp2_with fail
  refine (isSize_is _ _ true H.out).mono ?_
  rintro e w' ⟨rfl, rfl⟩
  go_wp2
  go_ret
  obtain ⟨i, hi, rfl⟩ := (isSz_iff s).1 H.out
  exact ⟨congrArg (fun z => Ending.returned (Value.int .i64 z)) (and_mask (y - x) i hi), rfl⟩

theorem rapart_yes (w : World) (x y s : Int) (h : isSz s = true) (hx0 : 0 ≤ x) (hx : x < s) (hy0 : 0 ≤ y) (hy : y < s) :
    Calls Try.prog 11 #[.int .i64 x, .int .i64 y, .int .i64 s] w fun e w' => e = .returned (.int .i64 ((y - x) % s)) ∧ w = w' := by
  obtain ⟨h1, h2⟩ := isSz_bounds h
  have H := Lib.hid h
  clear h
  by_cases hxy : x ≤ y
  · go_enter Try.func11, Try.ntmps11
    go_wp2_with fail
    refine (size_is _ _ true H.out).mono ?_
    rintro e w' ⟨rfl, rfl⟩
    go_wp2
    go_ret
    exact ⟨congrArg (fun z => Ending.returned (Value.int .i64 z)) (Int.emod_eq_of_lt (by omega) (by omega)).symm, rfl⟩
  · go_enter Try.func11, Try.ntmps11
    go_wp2_with fail
    refine (size_is _ _ true H.out).mono ?_
    rintro e w' ⟨rfl, rfl⟩
    go_wp2
    go_ret
    refine ⟨congrArg (fun z => Ending.returned (Value.int .i64 z)) ?_, rfl⟩
    rw [← Int.add_emod_right]
    exact (Int.emod_eq_of_lt (by omega) (by omega)).symm

theorem sz8 : isSz 8 = true := by decide
theorem sz3 : isSz 3 = false := by decide

theorem mix1 (w : World) : Calls Try.prog 27 #[.int .u64 1] w fun e w' => e = .returned (.int .u64 11400714820970677676) ∧ w' = w.alloc box := by
  have h := mix_walk w 1
  rw [show mixN 1 = 11400714820970677676 by decide +kernel] at h
  exact h
theorem mix5 (w : World) : Calls Try.prog 27 #[.int .u64 5] w fun e w' => e = .returned (.int .u64 1663341875200855286) ∧ w' = w.alloc box := by
  have h := mix_walk w 5
  rw [show mixN 5 = 1663341875200855286 by decide +kernel] at h
  exact h
theorem unmix5 (w : World) : Calls Try.prog 28 #[.int .u64 1663341875200855286] w fun e w' => e = .returned (.int .u64 5) ∧ w' = w.alloc box := by
  have h := unmix_walk w 1663341875200855286 (by decide)
  rw [show unmixN 1663341875200855286 = 5 by decide +kernel] at h
  exact h
theorem home18 (w : World) : Calls Try.prog 29 #[.int .u64 1, .int .i64 8] w fun e w' => e = .returned (.int .i64 4) ∧ w' = w.alloc box := by
  have h := home_yes w 1 8 sz8
  rw [show ((mixN 1 : Nat) : Int) % 8 = 4 by decide +kernel] at h
  exact h
theorem home13 (w : World) : Calls Try.prog 29 #[.int .u64 1, .int .i64 3] w fun e w' => e = .returned (.int .i64 0) ∧ w = w' := home_no w 1 3 sz3
theorem apart618 (w : World) : Calls Try.prog 10 #[.int .i64 6, .int .i64 1, .int .i64 8] w fun e w' => e = .returned (.int .i64 3) ∧ w = w' :=
  apart_yes w 6 1 8 sz8 (by decide) (by decide) (by decide) (by decide)

/- What every law asks first: it holds, and lays four boxes. -/
theorem awake_walk (w : World) :
    Calls Try.prog 9 #[] w fun e w' => e = .returned (.bool true) ∧ w' = (((w.alloc box).alloc box).alloc box).alloc box := by
  go_enter Try.func9, Try.ntmps9
  go_wp2_with fail
  refine (mix1 _).mono ?_
  rintro e w' ⟨rfl, rfl⟩
  go_wp2_with fail
  refine (mix5 _).mono ?_
  rintro e w' ⟨rfl, rfl⟩
  go_wp2_with fail
  refine (unmix5 _).mono ?_
  rintro e w' ⟨rfl, rfl⟩
  go_wp2_with fail
  refine (home18 _).mono ?_
  rintro e w' ⟨rfl, rfl⟩
  go_wp2_with fail
  refine (apart618 _).mono ?_
  rintro e w' ⟨rfl, rfl⟩
  go_wp2_with fail
  refine (home13 _).mono ?_
  rintro e w' ⟨rfl, rfl⟩
  go_wp2_with fail
  refine (apart_no _ _ _ _ sz3).mono ?_
  rintro e w' ⟨rfl, rfl⟩
  go_wp2
  go_ret
  exact ⟨rfl, rfl⟩
end Go.Proofs.Ytdjokgjobkjdhaa
