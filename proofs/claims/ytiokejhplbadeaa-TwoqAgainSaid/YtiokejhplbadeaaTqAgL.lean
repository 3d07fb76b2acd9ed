/- Two queues: Again, walked. -/
import Derived.Test.YtiokejhplbadeaaTqBd
namespace Go.Proofs.Ytiokejhplbadeaa
open Go Go.RowKit Go.Deep

namespace L9
variable {s : L9} {k : Nat}
theorem admit_in (h : k ∈ s.keys) : s.adm k = s := by unfold adm; rw [if_pos h]
theorem admit_c (s : L9) (k : Nat) : (s.adm k).c = s.c := by
  unfold adm
  split
  · rfl
  · rw [L9.come_c]; rfl
theorem touch_c (s : L9) (k : Nat) : (s.touch k).c = s.c := by unfold touch; split <;> rfl
/- What is admitted, of a key that is remembered, and of one that isn't. -/
theorem admit_again (ok : s.Ok) (h : k ∉ s.keys) (ho : k ∈ s.out) : ∃ ti tO tm, s.adm k = ⟨s.c, ti, tO, k :: tm⟩ ∧ k ∉ tO ∧ k ∉ ti ∧ ti.length ≤ 100000000 ∧ tO.length ≤ 100000000 := by
  have hok := ok.adm k (ok.fine.key k (by simp [ho]))
  have hnot : k ∉ ((s.forget k).shr (s.c - 1)).inn ++ ((s.forget k).shr (s.c - 1)).out ++ ((s.forget k).shr (s.c - 1)).main := fun hm => forget_not h (shr_mem hm)
  have e : s.adm k = ⟨s.c, ((s.forget k).shr (s.c - 1)).inn, ((s.forget k).shr (s.c - 1)).out, fr k ((s.forget k).shr (s.c - 1)).main⟩ := by
    unfold adm
    rw [if_neg h, decide_eq_true ho]
    rfl
  have h1 := hok.len_inn
  have h2 := hok.len_out
  rw [e] at h1 h2
  refine ⟨_, _, _, e, fun hm => hnot ?_, fun hm => hnot ?_, h1, h2⟩
  · simp [hm]
  · simp [hm]
theorem admit_new (ok : s.Ok) (hk : k < 18446744073709551616) (h : k ∉ s.keys) (ho : k ∉ s.out) : ∃ ti tO tm, s.adm k = ⟨s.c, k :: ti, tO, tm⟩ ∧ k ∉ tm ∧ tm.length ≤ 100000000 := by
  have hok := ok.adm k hk
  have hnot : k ∉ ((s.forget k).shr (s.c - 1)).inn ++ ((s.forget k).shr (s.c - 1)).out ++ ((s.forget k).shr (s.c - 1)).main := fun hm => forget_not h (shr_mem hm)
  have e : s.adm k = ⟨s.c, fr k ((s.forget k).shr (s.c - 1)).inn, ((s.forget k).shr (s.c - 1)).out, ((s.forget k).shr (s.c - 1)).main⟩ := by
    unfold adm
    rw [if_neg h, decide_eq_false ho]
    rfl
  have h1 := hok.len_main
  rw [e] at h1
  refine ⟨_, _, _, e, fun hm => hnot ?_, h1⟩
  simp [hm]
theorem touch_main (h : k ∈ s.main) : s.touch k = ⟨s.c, s.inn, s.out, k :: wo k s.main⟩ := by unfold touch; rw [if_pos h]; rfl
theorem touch_else (h : k ∉ s.main) : s.touch k = s := by unfold touch; rw [if_neg h]
theorem not_main (h : k ∉ s.keys) : k ∉ s.main := fun hm => h (List.mem_append_right _ hm)
end L9
theorem ite_of {c p q : Prop} [Decidable c] (hc : c) (hp : p) : if c then p else q := by rw [if_pos hc]; exact hp
end Go.Proofs.Ytiokejhplbadeaa
