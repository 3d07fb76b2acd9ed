/- Two queues: Again, walked. -/
import Derived.Test.YtiokejhplbadeaaTqAgM
import Derived.Test.YtiokejhplbadeaaTqAgN
import Derived.Test.YtiokejhplbadeaaTqAgO
namespace Go.Proofs.Ytiokejhplbadeaa
open Go Go.RowKit Go.Deep
section
variable {w : World} {v : Value} {l : List Act8}
theorem again9_short (PO : Pol9Ok) (AW : ∀ w, Calls Try.prog 33 #[] w (RetB w true)) (c : Nat) (hc : c < 256) (ha : AV w v l) (hl : l.length ≤ 60) (k : Nat) (hk : k < 18446744073709551616) : Calls Try.prog 12 #[.int .u8 (c : Nat), v, .int .u64 (k : Nat)] w (RetB w true) := by
  by_cases hin : k ∈ ((L9.new (1 + c % 12 : Nat)).runS l).keys
  · by_cases hm : k ∈ ((L9.new (1 + c % 12 : Nat)).runS l).main
    · exact again9_main PO AW c hc ha hl k hk hin hm
    · exact again9_inn PO AW c hc ha hl k hk hin hm
  · by_cases hno : k ∈ ((L9.new (1 + c % 12 : Nat)).runS l).out
    · exact again9_again PO AW c hc ha hl k hk hin hno
    · exact again9_new PO AW c hc ha hl k hk hin hno
theorem again9_walk (PO : Pol9Ok) (AW : ∀ w, Calls Try.prog 33 #[] w (RetB w true)) (c : Nat) (hc : c < 256) (ha : AV w v l) (k : Nat) (hk : k < 18446744073709551616) : Calls Try.prog 12 #[.int .u8 (c : Nat), v, .int .u64 (k : Nat)] w (RetB w true) := by
  by_cases hl : l.length ≤ 60
  · exact again9_short PO AW c hc ha hl k hk
  · have HAW := Lib.hid (fun W => AW W)
    obtain ⟨A, cap, rfl, _⟩ := ha.mem
    obtain ⟨na, hna⟩ : ∃ na, l.length = na := ⟨_, rfl⟩
    rw [hna] at hl ⊢
    have hlI : (60 : Int) < (na : Int) := by omega
    clear ha hna AW
    go_enter Try.func12, Try.ntmps12
    go_wp2_with fail
    refine (HAW.out _).mono ?_
    rintro e w1 ⟨rfl, hb1⟩
    have HB := Lib.hid hb1
    clear hb1
    go_wp2
    go_ret
    exact ⟨rfl, HB.out⟩
end
end Go.Proofs.Ytiokejhplbadeaa
