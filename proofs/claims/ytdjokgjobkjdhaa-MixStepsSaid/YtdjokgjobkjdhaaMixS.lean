/- Package mix: Mix, Unmix and the fold; the document's own Mix and Unmix. -/
import Derived.Test.YtdjokgjobkjdhaaProg
import Derived.WalkKit
import Derived.RowKit3
import Derived.Laws.Bits64
import Derived.Laws.Shifts
namespace Go.Proofs.Ytdjokgjobkjdhaa
open Go Go.RowKit

def fold (x : Nat) : Nat := x ^^^ x / 4294967296
def mixN (k : Nat) : Nat := fold (k * 11400714819323198485 % 18446744073709551616)
def unmixN (x : Nat) : Nat := fold x * 17428512612931826493 % 18446744073709551616

theorem fold_lt (x : Nat) (h : x < 18446744073709551616) : fold x < 18446744073709551616 :=
  Nat.xor_lt_two_pow (n := 64) h (Nat.lt_of_le_of_lt (Nat.div_le_self _ _) h)
theorem mixN_lt (k : Nat) : mixN k < 18446744073709551616 := fold_lt _ (Nat.mod_lt _ (by decide))
theorem unmixN_lt (k : Nat) : unmixN k < 18446744073709551616 := Nat.mod_lt _ (by decide)

theorem xor32 (x : Nat) (h : x < 18446744073709551616) : bits .xor .u64 (x : Int) ((x : Int) / 4294967296) = ((fold x : Nat) : Int) := xorShift_u64 x 4294967296 h
theorem wrapMul (k c : Nat) : IntKind.u64.wrap ((k : Int) * (c : Int)) = ((k * c % 18446744073709551616 : Nat) : Int) := by
  rw [IntKind.wrap_u64, Int.natCast_emod, Int.natCast_mul]; rfl
theorem wrapF (k : Nat) : IntKind.u64.wrap ((k : Int) * 11400714819323198485) = ((k * 11400714819323198485 % 18446744073709551616 : Nat) : Int) := wrapMul k 11400714819323198485
theorem wrapI (k : Nat) : IntKind.u64.wrap ((k : Int) * 17428512612931826493) = ((k * 17428512612931826493 % 18446744073709551616 : Nat) : Int) := wrapMul k 17428512612931826493

theorem fold_walk (w : World) (x : Nat) (hx : x < 18446744073709551616) (p : Addr) (hp : w.cell? p = some (.int .i64 32)) :
    Calls Try.prog 42 #[.int .u64 (x : Int), .pointer (some p)] w fun e w' => e = .returned (.int .u64 (fold x : Int)) ∧ w = w' := by
  go_enter Try.func42, Try.ntmps42
  go_wp2
  go_ret
  exact ⟨congrArg (fun z => Ending.returned (Value.int .u64 z)) (xor32 x hx), rfl⟩

theorem foldBy_walk (w : World) :
    Calls Try.prog 38 #[.int .i64 32] w fun e w' => e = .returned (.func (.func 42) #[] #[.pointer (some ⟨w.heap.size, 0, none⟩)]) ∧ w' = w.alloc (.cells #[.int .i64 32] 3) := by
  have hmf : ∀ (fn : Fn) (first cap : Array Value) (w : World), (Instr.makeFunc fn first cap).run Try.prog w = .ok (.func fn first cap) w := fun _ _ _ _ => rfl
  go_enter Try.func38, Try.ntmps38
  go_wp2
  go_ret
  exact ⟨rfl, rfl⟩

theorem mix_walk (w : World) (k : Nat) :
    Calls Try.prog 27 #[.int .u64 (k : Int)] w fun e w' => e = .returned (.int .u64 (mixN k : Int)) ∧ w' = w.alloc (.cells #[.int .i64 32] 3) := by
  go_enter Try.func27, Try.ntmps27
  go_wp2_with fail
  refine (foldBy_walk _).mono ?_
  rintro e w' ⟨rfl, rfl⟩
  go_wp2_with fail
  rw [wrapF]
  refine (fold_walk _ _ (Nat.mod_lt _ (by decide)) _ (by simp)).mono ?_
  rintro e w' ⟨rfl, rfl⟩
  go_wp2
  go_ret
  exact ⟨rfl, rfl⟩

theorem unmix_walk (w : World) (k : Nat) (hk : k < 18446744073709551616) :
    Calls Try.prog 28 #[.int .u64 (k : Int)] w fun e w' => e = .returned (.int .u64 (unmixN k : Int)) ∧ w' = w.alloc (.cells #[.int .i64 32] 3) := by
  go_enter Try.func28, Try.ntmps28
  go_wp2_with fail
  refine (foldBy_walk _).mono ?_
  rintro e w' ⟨rfl, rfl⟩
  go_wp2_with fail
  refine (fold_walk _ _ hk _ (by simp)).mono ?_
  rintro e w' ⟨rfl, rfl⟩
  go_wp2
  go_ret
  exact ⟨congrArg (fun z => Ending.returned (Value.int .u64 z)) (wrapI (fold k)), rfl⟩

end Go.Proofs.Ytdjokgjobkjdhaa
