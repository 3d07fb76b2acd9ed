/- Least recently used, the document's own: New, Touch, Drop, shrink. -/
import Derived.Test.YtemgbiohfgcphaaLrB
namespace Go.Proofs.Ytemgbiohfgcphaa
open Go Go.RowKit Go.Deep

section
variable {w : World} {u : Value} {s : L8}
set_option maxHeartbeats 100000000 in
theorem r8new_walk (n : Int) (hn1 : -9223372036854775808 ≤ n) (hn2 : n ≤ 9223372036854775807) : Calls Try.prog 26 #[.int .i64 n] w (P8 w (L8.new n)) := by
  have HB := Lib.hid ((Below.refl w.heap.size w).alloc (Nat.le_refl _) (.cells z8 55))
  have KK := Lib.hid (rcap_walk (w := w.alloc (.cells z8 55)) n hn1 hn2)
  obtain ⟨c, hc⟩ : ∃ c, capI n = c := ⟨_, rfl⟩
  have HC : Hid (P8 w (L8.new n) = P8 w ⟨c, []⟩) := Lib.hid (by rw [← hc]; rfl)
  rw [hc] at KK
  rw [HC.out]
  clear hc HC
  go_enter Try.func26, Try.ntmps26
  go_wp2_with fail
  refine KK.out.mono ?_
  rintro e w1 ⟨rfl, rfl⟩
  go_wp2
  exact bodyPost_ret (v := .agg (l8C c (.slice none 0 0))) (by simp [results, Try.results26, go_sem]) rfl ⟨_, rfl, (Below.refl _ _).alloc (Nat.le_refl _) _, ⟨KV.nil _⟩⟩
end
end Go.Proofs.Ytemgbiohfgcphaa
