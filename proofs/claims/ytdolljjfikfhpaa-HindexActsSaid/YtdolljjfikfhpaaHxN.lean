/- A table that is nil. -/
import Derived.Test.YtdolljjfikfhpaaHxI
namespace Go.Proofs.Ytdolljjfikfhpaa
open Go Go.RowKit Go.Deep

theorem nil_put (w : World) (k n : Value) :
    Calls Try.prog 20 #[.pointer none, k, n] w fun e w' => e = .returned (.tuple #[]) ∧ w = w' := by
  go_enter Try.func20, Try.ntmps20
  go_wp2
  exact bodyPost_ret (results_none rfl _ _ _) rfl ⟨rfl, rfl⟩
theorem nil_get (w : World) (k : Value) :
    Calls Try.prog 11 #[.pointer none, k] w fun e w' => e = .returned (.tuple #[.int .i32 0, .bool false]) ∧ w = w' := by
  go_enter Try.func11, Try.ntmps11
  go_wp2
  exact bodyPost_ret (v := .tuple #[.int .i32 0, .bool false]) (by simp [results, Try.results11, go_sem]) rfl ⟨rfl, rfl⟩
theorem nil_delete (w : World) (k : Value) :
    Calls Try.prog 21 #[.pointer none, k] w fun e w' => e = .returned (.bool false) ∧ w = w' := by
  go_enter Try.func21, Try.ntmps21
  go_wp2
  go_ret
  exact ⟨rfl, rfl⟩
theorem nil_len (w : World) :
    Calls Try.prog 17 #[.pointer none] w fun e w' => e = .returned (.int .i64 0) ∧ w = w' := by
  go_enter Try.func17, Try.ntmps17
  go_wp2
  go_ret
  exact ⟨rfl, rfl⟩
theorem nil_slots (w : World) :
    Calls Try.prog 18 #[.pointer none] w fun e w' => e = .returned (.int .i64 0) ∧ w = w' := by
  go_enter Try.func18, Try.ntmps18
  go_wp2
  go_ret
  exact ⟨rfl, rfl⟩
theorem nil_probes (w : World) (k : Value) :
    Calls Try.prog 13 #[.pointer none, k] w fun e w' => e = .returned (.int .i64 0) ∧ w = w' := by
  go_enter Try.func13, Try.ntmps13
  go_wp2
  go_ret
  exact ⟨rfl, rfl⟩
theorem nil_slot (w : World) :
    Calls Try.prog 10 #[.pointer none, .int .i64 0] w fun e w' => e = .returned (slT Sl.no) ∧ w = w' := by
  have HS := Lib.hid (nil_slots w)
  go_enter Try.func10, Try.ntmps10
  go_wp2_with fail
  refine HS.out.mono ?_
  rintro e w1 ⟨rfl, rfl⟩
  go_wp2
  exact bodyPost_ret (v := slT Sl.no) (by simp [results, Try.results10, go_sem, Sl.no]) rfl ⟨rfl, rfl⟩
end Go.Proofs.Ytdolljjfikfhpaa
