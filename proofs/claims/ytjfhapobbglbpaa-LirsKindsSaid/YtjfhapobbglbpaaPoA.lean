/- What all policies share: capacities, acts. -/
import Derived.Test.YtjfhapobbglbpaaBox
namespace Go.Proofs.Ytjfhapobbglbpaa
open Go Go.RowKit Go.Deep

def capI (n : Int) : Nat := if n < 1 then 1 else if 1048576 < n then 1048576 else n.toNat
theorem capI_pos (n : Int) : 1 ≤ capI n ∧ capI n ≤ 1048576 := by
  unfold capI
  split
  · omega
  · split
    · omega
    · omega
theorem capI_nat (n : Nat) (h1 : 1 ≤ n) (h2 : n ≤ 1048576) : capI (n : Int) = n := by
  unfold capI
  rw [if_neg (by omega), if_neg (by omega)]
  omega
structure Act8 where
  kind : Nat
  key : Nat
  n : Nat
structure Act8.Ok (x : Act8) : Prop where
  kind : x.kind < 256
  key : x.key < 18446744073709551616
  n : x.n < 65536
abbrev act8C (x : Act8) : Array Value := #[.int .u8 (x.kind : Nat), .int .u64 (x.key : Nat), .int .u16 (x.n : Nat)]
def kindA (x : Act8) (there : Bool) : Nat := if x.kind % 10 = 0 then 3 else if x.kind % 10 = 1 then 4 else if x.kind % 10 = 2 then 1 else if x.kind % 10 = 3 then 2 else if there then 1 else 2
def sizeA (x : Act8) : Nat := 1 + x.n % 14
theorem kindA_is (x : Act8) (b : Bool) : kindA x b = 1 ∨ kindA x b = 2 ∨ kindA x b = 3 ∨ kindA x b = 4 := by
  unfold kindA
  repeat' split
  all_goals simp
theorem sizeA_is (x : Act8) : 1 ≤ sizeA x ∧ sizeA x ≤ 14 := by unfold sizeA; omega
section
variable {w : World}
theorem rcap_walk (n : Int) (hn1 : -9223372036854775808 ≤ n) (hn2 : n ≤ 9223372036854775807) :
    Calls Try.prog 31 #[.int .i64 n] w fun e w' => e = .returned (.int .i64 (capI n : Nat)) ∧ w = w' := by
  obtain ⟨c, hc⟩ : ∃ c, capI n = c := ⟨_, rfl⟩
  have HC := Lib.hid hc
  rw [hc]
  clear hc
  by_cases h1 : n < 1
  · have H : Hid ((1 : Int) = (c : Int)) := Lib.hid (by rw [← HC.out, capI, if_pos h1]; rfl)
    go_enter Try.func31, Try.ntmps31
    go_wp2
    go_ret
    exact ⟨by rw [H.out]; rfl, rfl⟩
  · by_cases h2 : 1048576 < n
    · have H : Hid ((1048576 : Int) = (c : Int)) := Lib.hid (by rw [← HC.out, capI, if_neg h1, if_pos h2]; rfl)
      go_enter Try.func31, Try.ntmps31
      go_wp2
      go_ret
      exact ⟨by rw [H.out]; rfl, rfl⟩
    · have H : Hid (n = (c : Int)) := Lib.hid (by rw [← HC.out, capI, if_neg h1, if_neg h2]; omega)
      go_enter Try.func31, Try.ntmps31
      go_wp2
      go_ret
      exact ⟨by rw [← H.out]; rfl, rfl⟩
theorem rkind_walk (x : Act8) (wf : x.Ok) (b : Bool) :
    Calls Try.prog 23 #[.agg (act8C x), .bool b] w fun e w' => e = .returned (.int .i64 (kindA x b : Nat)) ∧ Below w.heap.size w w' := by
  have hk := wf.kind
  have hb0 : Below w.heap.size w (w.alloc (.cells (act8C x) 38)) := (Below.refl _ _).alloc (Nat.le_refl _) _
  have HB0 := Lib.hid hb0
  have HK : Hid (kindA x b = if x.kind % 10 = 0 then 3 else if x.kind % 10 = 1 then 4 else if x.kind % 10 = 2 then 1 else if x.kind % 10 = 3 then 2 else if b then 1 else 2) := Lib.hid rfl
  generalize kindA x b = q at HK ⊢
  obtain ⟨r, hr⟩ : ∃ r, x.kind % 10 = r := ⟨_, rfl⟩
  have hr10 : r < 10 := by omega
  have e2 : (x.kind : Int).tmod 10 = (r : Int) := by rw [Int.tmod_eq_emod_of_nonneg (by omega)]; omega
  rw [hr] at HK
  clear hr wf hb0
  rcases (by omega : r = 0 ∨ r = 1 ∨ r = 2 ∨ r = 3 ∨ 4 ≤ r) with rfl | rfl | rfl | rfl | h4
  · have H : Hid (q = 3) := Lib.hid (by rw [HK.out]; rfl)
    go_enter Try.func23, Try.ntmps23
    go_wp2
    go_ret
    exact ⟨by rw [H.out]; rfl, HB0.out⟩
  · have H : Hid (q = 4) := Lib.hid (by rw [HK.out]; rfl)
    go_enter Try.func23, Try.ntmps23
    go_wp2
    go_ret
    exact ⟨by rw [H.out]; rfl, HB0.out⟩
  · have H : Hid (q = 1) := Lib.hid (by rw [HK.out]; rfl)
    go_enter Try.func23, Try.ntmps23
    go_wp2
    go_ret
    exact ⟨by rw [H.out]; rfl, HB0.out⟩
  · have H : Hid (q = 2) := Lib.hid (by rw [HK.out]; rfl)
    go_enter Try.func23, Try.ntmps23
    go_wp2
    go_ret
    exact ⟨by rw [H.out]; rfl, HB0.out⟩
  · have f0 : ((r : Int) == 0) = false := by rw [beq_eq_false_iff_ne]; omega
    have f1 : ((r : Int) == 1) = false := by rw [beq_eq_false_iff_ne]; omega
    have f2 : ((r : Int) == 2) = false := by rw [beq_eq_false_iff_ne]; omega
    have f3 : ((r : Int) == 3) = false := by rw [beq_eq_false_iff_ne]; omega
    have H : Hid (q = if b then 1 else 2) := Lib.hid (by rw [HK.out, if_neg (by omega), if_neg (by omega), if_neg (by omega), if_neg (by omega)])
    cases b
    · go_enter Try.func23, Try.ntmps23
      go_wp2
      go_ret
      exact ⟨by rw [H.out]; rfl, HB0.out⟩
    · go_enter Try.func23, Try.ntmps23
      go_wp2
      go_ret
      exact ⟨by rw [H.out]; rfl, HB0.out⟩
theorem rsize_walk (x : Act8) (wf : x.Ok) :
    Calls Try.prog 24 #[.agg (act8C x)] w fun e w' => e = .returned (.int .i64 (sizeA x : Nat)) ∧ Below w.heap.size w w' := by
  have hk := wf.n
  have hb0 : Below w.heap.size w (w.alloc (.cells (act8C x) 38)) := (Below.refl _ _).alloc (Nat.le_refl _) _
  have HB0 := Lib.hid hb0
  obtain ⟨r, hr⟩ : ∃ r, x.n % 14 = r := ⟨_, rfl⟩
  have HK : Hid ((1 : Int) + (r : Int) = (sizeA x : Nat)) := Lib.hid (by unfold sizeA; omega)
  have hr10 : r < 14 := by omega
  have e2 : (x.n : Int).tmod 14 = (r : Int) := by rw [Int.tmod_eq_emod_of_nonneg (by omega)]; omega
  generalize sizeA x = q at HK ⊢
  clear hr wf hb0
  go_enter Try.func24, Try.ntmps24
  go_wp2
  go_ret
  exact ⟨by rw [← HK.out]; rfl, HB0.out⟩
end
end Go.Proofs.Ytjfhapobbglbpaa
