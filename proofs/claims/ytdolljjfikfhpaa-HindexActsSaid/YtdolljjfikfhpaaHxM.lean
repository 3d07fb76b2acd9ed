/- Package mix's Home, and the document's own, for what calls them. -/
import Derived.Test.YtdolljjfikfhpaaProg
import Derived.WalkKit
import Derived.RowKit3
import Derived.Laws.Bits64
import Derived.Laws.Shifts
import Derived.Lib.Hide
import Derived.Deep.LoopGhost
namespace Go.Proofs.Ytdolljjfikfhpaa
open Go Go.RowKit

def fold (x : Nat) : Nat := x ^^^ x / 4294967296
def mixN (k : Nat) : Nat := fold (k * 11400714819323198485 % 18446744073709551616)

theorem fold_lt (x : Nat) (h : x < 18446744073709551616) : fold x < 18446744073709551616 :=
  Nat.xor_lt_two_pow (n := 64) h (Nat.lt_of_le_of_lt (Nat.div_le_self _ _) h)
theorem mixN_lt (k : Nat) : mixN k < 18446744073709551616 := fold_lt _ (Nat.mod_lt _ (by decide))

theorem xor32 (x : Nat) (h : x < 18446744073709551616) : bits .xor .u64 (x : Int) ((x : Int) / 4294967296) = ((fold x : Nat) : Int) := xorShift_u64 x 4294967296 h
theorem wrapMul (k c : Nat) : IntKind.u64.wrap ((k : Int) * (c : Int)) = ((k * c % 18446744073709551616 : Nat) : Int) := by
  rw [IntKind.wrap_u64, Int.natCast_emod, Int.natCast_mul]; rfl
theorem wrapF (k : Nat) : IntKind.u64.wrap ((k : Int) * 11400714819323198485) = ((k * 11400714819323198485 % 18446744073709551616 : Nat) : Int) := wrapMul k 11400714819323198485

theorem fold_walk (w : World) (x : Nat) (hx : x < 18446744073709551616) (p : Addr) (hp : w.cell? p = some (.int .i64 32)) :
    Calls Try.prog 44 #[.int .u64 (x : Int), .pointer (some p)] w fun e w' => e = .returned (.int .u64 (fold x : Int)) ∧ w = w' := by
  go_enter Try.func44, Try.ntmps44
  go_wp2
  go_ret
  exact ⟨congrArg (fun z => Ending.returned (Value.int .u64 z)) (xor32 x hx), rfl⟩

theorem foldBy_walk (w : World) :
    Calls Try.prog 42 #[.int .i64 32] w fun e w' => e = .returned (.func (.func 44) #[] #[.pointer (some ⟨w.heap.size, 0, none⟩)]) ∧ w' = w.alloc (.cells #[.int .i64 32] 3) := by
  have hmf : ∀ (fn : Fn) (first cap : Array Value) (w : World), (Instr.makeFunc fn first cap).run Try.prog w = .ok (.func fn first cap) w := fun _ _ _ _ => rfl
  go_enter Try.func42, Try.ntmps42
  go_wp2
  go_ret
  exact ⟨rfl, rfl⟩

theorem mix_walk (w : World) (k : Nat) :
    Calls Try.prog 36 #[.int .u64 (k : Int)] w fun e w' => e = .returned (.int .u64 (mixN k : Int)) ∧ w' = w.alloc (.cells #[.int .i64 32] 3) := by
  go_enter Try.func36, Try.ntmps36
  go_wp2_with fail
  refine (foldBy_walk _).mono ?_
  rintro e w' ⟨rfl, rfl⟩
  go_wp2_with fail
  rw [wrapF]
  refine (fold_walk _ _ (Nat.mod_lt _ (by decide)) _ (by simp)).mono ?_
  rintro e w' ⟨rfl, rfl⟩
  go_wp2
  go_ret
  exact ⟨rfl, rfl⟩

theorem refMix_walk (w : World) (k : Nat) :
    Calls Try.prog 30 #[.int .u64 (k : Int)] w fun e w' => e = .returned (.int .u64 (mixN k : Int)) ∧ w = w' := by
  go_enter Try.func30, Try.ntmps30
  go_wp2
  go_ret
  refine ⟨congrArg (fun z => Ending.returned (Value.int .u64 z)) ?_, rfl⟩
  have hm : k * 11400714819323198485 % 18446744073709551616 < 18446744073709551616 := Nat.mod_lt _ (by decide)
  rw [wrapF, mixN]
  generalize k * 11400714819323198485 % 18446744073709551616 = x at hm ⊢
  rw [Int.tdiv_eq_ediv_of_nonneg (by omega), show IntKind.u64.wrap ((x : Int) / 4294967296) = (x : Int) / 4294967296 by rw [IntKind.wrap_u64]; omega]
  exact xor32 x hm

def isSz (s : Int) : Bool := (List.range 31).any fun i => s == 2 ^ i
theorem isSz_iff (s : Int) : isSz s = true ↔ ∃ i, i < 31 ∧ s = 2 ^ i := by simp [isSz]
theorem isSz_yes {s : Int} {k : Nat} (hk : k < 31) (h : s = 2 ^ k) : isSz s = true := (isSz_iff s).2 ⟨k, hk, h⟩
theorem isSz_no {s : Int} (h : ∀ j, j < 31 → s ≠ 2 ^ j) : isSz s = false := by
  cases e : isSz s
  · rfl
  · obtain ⟨i, hi, hs⟩ := (isSz_iff s).1 e
    exact absurd hs (h i hi)
theorem wrap64_pow : ∀ k, k < 31 → wrap64 ((2 : Int) ^ k) = 2 ^ k := by decide +kernel
theorem pow_le30 : ∀ k, k < 31 → (2 : Int) ^ k ≤ 1073741824 := by decide +kernel
theorem pow_pos2 (k : Nat) : (0 : Int) < 2 ^ k := Int.pow_pos (by decide)
theorem pow_lt {i j : Nat} (h : i < j) : (2 : Int) ^ i < 2 ^ j := Int.pow_lt_pow_of_lt (by decide) h

theorem isSz_at {s x : Int} {k : Nat} (hk : k < 31) (hx : x = 2 ^ k) (hN : ∀ j, j < k → (2 : Int) ^ j < s) (h : s ≤ x ∨ 1073741824 ≤ x) : (s == x) = isSz s := by
  by_cases e : s = x
  · rw [isSz_yes hk (e.trans hx), e]; exact beq_self_eq_true x
  · rw [isSz_no, beq_eq_false_iff_ne.2 e]
    intro j hj hs
    rcases Nat.lt_trichotomy j k with h1 | h1 | h1
    · have := hN j h1; omega
    · subst h1; exact e (hs.trans hx.symm)
    · have h2 := pow_lt h1
      rcases h with h | h
      · omega
      · have := pow_le30 j hj; omega

theorem isSize_walk (w : World) (s : Int) :
    Calls Try.prog 35 #[.int .i64 s] w fun e w' => e = .returned (.bool (isSz s)) ∧ w = w' := by
  go_enter Try.func35, Try.ntmps35
  go_wp2
  go_loop [4] (fun i => ∃ k : Nat, k ≤ 31 ∧ i = .int .i64 k ∧ Hid (∀ j, j < k → s ≠ 2 ^ j)) (fun i => 31 - (intOf i).toNat)
  case atStart => exact ⟨0, by omega, rfl, Lib.hid (fun j hj => by omega)⟩
  case round =>
    obtain ⟨k, hk, rfl, hN⟩ := hrel
    go_wp2
    · have hlt : k < 31 := by omega
      have hq : (s == wrap64 (2 ^ k)) = true := by assumption
      rw [wrap64_pow k hlt] at hq
      have hy := isSz_yes hlt (by simpa using hq)
      go_ret
      exact ⟨congrArg (fun b => Ending.returned (Value.bool b)) hy.symm, rfl⟩
    · have hlt : k < 31 := by omega
      have hq : (s == wrap64 (2 ^ k)) = false := by assumption
      rw [wrap64_pow k hlt] at hq
      go_round
      case rel =>
        refine ⟨k + 1, by omega, by go_num, Lib.hid fun j hj => ?_⟩
        rcases Nat.lt_or_ge j k with h | h
        · exact hN.out j h
        · obtain rfl : j = k := by omega
          simpa using hq
      case measure => simp only [intOf]; omega
    · have hge : ¬ ((k : Int) < 31) := by first | assumption | omega
      obtain rfl : k = 31 := by omega
      have hy := isSz_no hN.out
      go_ret
      exact ⟨congrArg (fun b => Ending.returned (Value.bool b)) hy.symm, rfl⟩

theorem size_walk (w : World) (s : Int) :
    Calls Try.prog 29 #[.int .i64 s] w fun e w' => e = .returned (.bool (isSz s)) ∧ w = w' := by
  go_enter Try.func29, Try.ntmps29
  go_wp2
  go_loopg [3] 30 (fun g p wr => ∃ (k : Nat) (x : Int), k + g = 30 ∧ p = .int .i64 x ∧ 1 ≤ x ∧ x ≤ 1073741824 ∧ Hid (x = 2 ^ k ∧ ∀ j, j < k → (2 : Int) ^ j < s) ∧ wr = w)
  case atStart => exact ⟨0, 1, by omega, rfl, by omega, by omega, Lib.hid ⟨rfl, fun j hj => by omega⟩, rfl⟩
  case round =>
    obtain ⟨k, x, hk, rfl, hx1, hx2, hN, rfl⟩ := hrel
    go_wp2
    · have h1 : x < s := by assumption
      have h2 : x < 1073741824 := by assumption
      obtain ⟨hx, hj⟩ := hN.out
      have hk30 : k < 30 := by
        rcases Nat.lt_or_ge k 30 with h | h
        · exact h
        · obtain rfl : k = 30 := by omega
          have : (2 : Int) ^ 30 = 1073741824 := by decide
          omega
      go_roundg (gk - 1)
      case measure => omega
      case rel =>
        refine ⟨k + 1, 2 * x, by omega, rfl, by omega, by have := pow_le30 (k + 1) (by omega); rw [Int.pow_succ] at this; omega, Lib.hid ⟨by rw [hx, Int.pow_succ, Int.mul_comm], fun j h => ?_⟩, rfl⟩
        rcases Nat.lt_or_ge j k with h3 | h3
        · exact hj j h3
        · obtain rfl : j = k := by omega
          omega
    all_goals
      obtain ⟨hx, hj⟩ := hN.out
      have hy := isSz_at (by omega) hx hj (by omega)
      go_ret
      exact ⟨congrArg (fun b => Ending.returned (Value.bool b)) hy, rfl⟩

def box : Obj := .cells #[.int .i64 32] 3

theorem isSz_bounds {s : Int} (h : isSz s = true) : 1 ≤ s ∧ s ≤ 1073741824 := by
  obtain ⟨i, hi, rfl⟩ := (isSz_iff s).1 h
  have := pow_pos2 i
  exact ⟨by omega, pow_le30 i hi⟩

theorem isSize_is (w : World) (s : Int) (b : Bool) (h : isSz s = b) :
    Calls Try.prog 35 #[.int .i64 s] w fun e w' => e = .returned (.bool b) ∧ w = w' := h ▸ isSize_walk w s
theorem size_is (w : World) (s : Int) (b : Bool) (h : isSz s = b) :
    Calls Try.prog 29 #[.int .i64 s] w fun e w' => e = .returned (.bool b) ∧ w = w' := h ▸ size_walk w s

theorem home_no (w : World) (k : Nat) (s : Int) (h : isSz s = false) :
    Calls Try.prog 22 #[.int .u64 (k : Int), .int .i64 s] w fun e w' => e = .returned (.int .i64 0) ∧ w = w' := by
  have H := Lib.hid h
  clear h
  go_enter Try.func22, Try.ntmps22
  go_wp2_with fail
  refine (isSize_is _ _ false H.out).mono ?_
  rintro e w' ⟨rfl, rfl⟩
  go_wp2
  go_ret
  exact ⟨rfl, rfl⟩

theorem home_yes (w : World) (k : Nat) (s : Int) (h : isSz s = true) :
    Calls Try.prog 22 #[.int .u64 (k : Int), .int .i64 s] w fun e w' => e = .returned (.int .i64 ((mixN k : Int) % s)) ∧ w' = w.alloc box := by
  obtain ⟨h1, h2⟩ := isSz_bounds h
  have H := Lib.hid h
  clear h
  have hm := mixN_lt k
  have e1 : IntKind.u64.wrap s = s := by rw [IntKind.wrap_u64]; omega
  have e2 : (mixN k : Int).tmod s = (mixN k : Int) % s := Int.tmod_eq_emod_of_nonneg (by omega)
  have e3 : 0 ≤ (mixN k : Int) % s := Int.emod_nonneg _ (by omega)
  have e4 : (mixN k : Int) % s < s := Int.emod_lt_of_pos _ (by omega)
  go_enter Try.func22, Try.ntmps22
  go_wp2_with fail
  refine (isSize_is _ _ true H.out).mono ?_
  rintro e w' ⟨rfl, rfl⟩
  go_wp2_with fail
  refine (mix_walk _ k).mono ?_
  rintro e w' ⟨rfl, rfl⟩
  go_wp2
  go_ret
  exact ⟨rfl, rfl⟩

theorem rhome_no (w : World) (k : Nat) (s : Int) (h : isSz s = false) :
    Calls Try.prog 19 #[.int .u64 (k : Int), .int .i64 s] w fun e w' => e = .returned (.int .i64 0) ∧ w = w' := by
  have H := Lib.hid h
  clear h
  go_enter Try.func19, Try.ntmps19
  go_wp2_with fail
  refine (size_is _ _ false H.out).mono ?_
  rintro e w' ⟨rfl, rfl⟩
  go_wp2
  go_ret
  exact ⟨rfl, rfl⟩

theorem rhome_yes (w : World) (k : Nat) (s : Int) (h : isSz s = true) :
    Calls Try.prog 19 #[.int .u64 (k : Int), .int .i64 s] w fun e w' => e = .returned (.int .i64 ((mixN k : Int) % s)) ∧ w = w' := by
  obtain ⟨h1, h2⟩ := isSz_bounds h
  have H := Lib.hid h
  clear h
  have hm := mixN_lt k
  have e1 : IntKind.u64.wrap s = s := by rw [IntKind.wrap_u64]; omega
  have e2 : (mixN k : Int).tmod s = (mixN k : Int) % s := Int.tmod_eq_emod_of_nonneg (by omega)
  have e3 : 0 ≤ (mixN k : Int) % s := Int.emod_nonneg _ (by omega)
  have e4 : (mixN k : Int) % s < s := Int.emod_lt_of_pos _ (by omega)
  go_enter Try.func19, Try.ntmps19
  go_wp2_with fail
  refine (size_is _ _ true H.out).mono ?_
  rintro e w' ⟨rfl, rfl⟩
  go_wp2_with fail
  refine (refMix_walk _ k).mono ?_
  rintro e w' ⟨rfl, rfl⟩
  go_wp2
  go_ret
  exact ⟨rfl, rfl⟩
theorem sz8 : isSz 8 = true := by decide
end Go.Proofs.Ytdolljjfikfhpaa
