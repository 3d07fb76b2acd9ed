/- The laws' awake. -/
import Derived.Test.YtlmcodmglcmmoaaLsN
import Derived.Test.YtlmcodmglcmmoaaLsA
namespace Go.Proofs.Ytlmcodmglcmmoaa
open Go Go.RowKit Go.Deep

def awA : St := (St.first 5).alloc.alloc
def aw0 : Nat → List Nat := fun _ => []
def aw1 : Nat → List Nat := pushL true 2 aw0 awA 0 2
def aw2 : Nat → List Nat := pushL true 2 aw1 awA 0 1
def aw3 : Nat → List Nat := moveL 2 aw2 1 2
def aw4 : Nat → List Nat := pushL false 2 aw3 awA 0 2
def aw5 : Nat → List Nat := remL 2 aw4 1

theorem awake_walk (w : World) : Calls Try.prog 8 #[] w fun e w' => e = .returned (.bool true) ∧ Below w.heap.size w w' := by
  go_enter Try.func8, Try.ntmps8
  go_wp2_with fail
  refine (show Calls _ _ _ w fun e w' => e = .returned (.pointer (some ⟨w.heap.size, 0, none⟩)) ∧ Held w w' w.heap.size (St.first 5) [] from held_new (Below.refl _ _) 4 (by decide) (by decide)).mono ?_
  rintro e w1 ⟨rfl, h⟩
  have H1 := Lib.hid h
  clear h
  go_wp2_with fail
  refine (show Calls _ _ _ w1 fun e w' => e = .returned (.int .i32 1) ∧ Held w w' w.heap.size (St.first 5).alloc [] ∧ Kept [] w1 w' from held_alloc H1.out (by decide)).mono ?_
  rintro e w2 ⟨rfl, h, _⟩
  have H2 := Lib.hid h
  clear h
  go_wp2_with fail
  refine (show Calls _ _ _ w2 fun e w' => e = .returned (.int .i32 2) ∧ Held w w' w.heap.size awA [] ∧ Kept [] w2 w' from held_alloc H2.out (by decide)).mono ?_
  rintro e w3 ⟨rfl, h, _⟩
  have H3 := Lib.hid h
  clear h
  go_wp2_with fail
  refine (show Calls _ _ _ w3 fun e w' => e = .returned (.pointer (some ⟨w3.heap.size + 1, 0, none⟩)) ∧ HL w w' (w3.heap.size + 1) w.heap.size 2 aw0 awA [] ∧ Kept [] w3 w' from ilnew_walk H3.out (by decide) (fun _ _ => ⟨rfl, rfl, rfl⟩) 2).mono ?_
  rintro e w4 ⟨rfl, h, _⟩
  have H4 := Lib.hid h
  clear h
  go_wp2_with fail
  refine (show Calls _ _ _ w4 fun e w' => e = .returned (.bool true) ∧ HL w w' (w3.heap.size + 1) w.heap.size 2 aw1 awA [] ∧ Kept [] w4 w' from hl_pushFront H4.out 0 2 (by decide)).mono ?_
  rintro e w5 ⟨rfl, h, _⟩
  have H5 := Lib.hid h
  clear h
  go_wp2_with fail
  refine (show Calls _ _ _ w5 fun e w' => e = .returned (.bool true) ∧ HL w w' (w3.heap.size + 1) w.heap.size 2 aw2 awA [] ∧ Kept [] w5 w' from hl_pushFront H5.out 0 1 (by decide)).mono ?_
  rintro e w6 ⟨rfl, h, _⟩
  have H6 := Lib.hid h
  clear h
  go_wp2_with fail
  refine (show Calls _ _ _ w6 fun e w' => e = .returned (.bool true) ∧ HL w w' (w3.heap.size + 1) w.heap.size 2 aw3 awA [] ∧ Kept [] w6 w' from hl_moveFront H6.out 1 2 (by decide)).mono ?_
  rintro e w7 ⟨rfl, h, _⟩
  have H7 := Lib.hid h
  clear h
  go_wp2_with fail
  refine (show Calls _ _ _ w7 fun e w' => e = .returned (.int .i32 1) ∧ w7 = w' from hl_front H7.out 0).mono ?_
  rintro e w8 ⟨rfl, rfl⟩
  go_wp2_with fail
  refine (show Calls _ _ _ w7 fun e w' => e = .returned (.int .i32 1) ∧ w7 = w' from hl_back H7.out 0).mono ?_
  rintro e w8 ⟨rfl, rfl⟩
  go_wp2_with fail
  refine (show Calls _ _ _ w7 fun e w' => e = .returned (.int .i64 1) ∧ Below w7.heap.size w7 w' from hl_tag H7.out 2 (by decide)).mono ?_
  rintro e w8 ⟨rfl, h⟩
  have H8 := Lib.hid (H7.out.still h).1
  clear h
  go_wp2_with fail
  refine (show Calls _ _ _ w8 fun e w' => e = .returned (.int .i64 1) ∧ w8 = w' from hl_len H8.out 1).mono ?_
  rintro e w9 ⟨rfl, rfl⟩
  go_wp2_with fail
  refine (show Calls _ _ _ w8 fun e w' => e = .returned (.bool false) ∧ HL w w' (w3.heap.size + 1) w.heap.size 2 aw4 awA [] ∧ Kept [] w8 w' from hl_pushBack H8.out 0 2 (by decide)).mono ?_
  rintro e w9 ⟨rfl, h, _⟩
  have H9 := Lib.hid h
  clear h
  go_wp2_with fail
  refine (show Calls _ _ _ w9 fun e w' => e = .returned (.bool true) ∧ HL w w' (w3.heap.size + 1) w.heap.size 2 aw5 awA [] ∧ Kept [] w9 w' from hl_remove H9.out 1 (by decide)).mono ?_
  rintro e w10 ⟨rfl, h, _⟩
  have H10 := Lib.hid h
  clear h
  go_wp2_with fail
  refine (show Calls _ _ _ w10 fun e w' => e = .returned (.int .i64 (-1)) ∧ Below w10.heap.size w10 w' from hl_tag H10.out 1 (by decide)).mono ?_
  rintro e w11 ⟨rfl, h⟩
  have H11 := Lib.hid (H10.out.still h).1.below
  clear h
  go_wp2
  go_ret
  exact ⟨rfl, H11.out⟩
end Go.Proofs.Ytlmcodmglcmmoaa
