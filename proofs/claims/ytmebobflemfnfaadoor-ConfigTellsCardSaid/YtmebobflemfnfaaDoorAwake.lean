/- The law's awake: May of 9 and 4 is told as the chapter says. -/
import Derived.Test.YtmebobflemfnfaaDoorWrap
import Derived.Test.YtmebobflemfnfaaDoorErr
namespace Go.Proofs.YtmebobflemfnfaaDoor
open Go Go.RowKit

theorem tells_small (w : World) (i : Nat) (hi : i < 100) : TellsN w (i : Int) ⟨(Lib.decDigits i).toArray⟩ := fun w1 _ =>
  (Tryd.strconv_Itoa_small i hi w1).mono fun _ _ ⟨he, hw⟩ => ⟨he, hw ▸ Below.refl _ _⟩

theorem dec9 : Lib.decDigits 9 = [57] := by kernel_rfl
theorem error_nine (w : World) (a : Nat) (hb : BadAt w a sPolicy 9 (.iface 32 (.int .i64 1))) :
    Calls Tryd.prog 17 #[.pointer (some ⟨a, 0, none⟩)] w fun e w' => e = .returned (.string ⟨#[112, 111, 108, 105, 99, 121, 58, 32, 57, 58, 32, 99, 111, 110, 102, 105, 103]⟩) ∧ Below w.heap.size w w' := by
  refine (error_errno w a sPolicy 9 _ 1 hb (.inl rfl) (tells_small w 9 (by decide)) (by rw [dec9]; decide)).mono ?_
  rintro e w' ⟨rfl, hb⟩
  exact ⟨by rw [dec9]; rfl, hb⟩

theorem methError (v : Value) (w : World) : (Go.method 236 38 v "Error").run Tryd.prog w = .ok (17, v) w := by kernel_rfl

set_option maxRecDepth 100000 in
set_option maxHeartbeats 4000000 in
theorem awake_true (w : World) (hg : ErrT w) : Calls Tryd.prog 8 #[] w fun e w' => e = .returned (.bool true) ∧ Below w.heap.size w w' := by
  have mE := methError
  have hsp : sPolicy.toList = [112, 111, 108, 105, 99, 121] := by kernel_rfl
  have HG := Lib.hid hg
  have hlt := hg.lt
  clear hg
  go_enter Tryd.func8, Tryd.ntmps8
  go_wp2_with fail
  refine (may_policy _ 9 4 (.inr (by decide))).mono ?_
  rintro e w1 ⟨rfl, hbad, hb1, hsz⟩
  have HB1 := Lib.hid hbad
  have BB1 := Lib.hid hb1
  have HG1 := Lib.hid (HG.out.below hb1 hlt)
  clear hbad hb1 hsz
  go_wp2_with fail
  refine (field_bad _ _ _ _ _ HB1.out HG1.out).mono ?_
  rintro e w2 ⟨rfl, hb2⟩
  have HB2 := Lib.hid (HB1.out.below hb2 HB1.out.lt)
  have BB2 := Lib.hid (BB1.out.trans (hb2.mono BB1.out.size))
  have HG2 := Lib.hid (HG1.out.below hb2 HG1.out.lt)
  clear hb2
  go_wp2_with fail
  refine (error_nine _ _ HB2.out).mono ?_
  rintro e w3 ⟨rfl, hb3⟩
  have HB3 := Lib.hid (HB2.out.below hb3 HB2.out.lt)
  have BB3 := Lib.hid (BB2.out.trans (hb3.mono BB2.out.size))
  have HG3 := Lib.hid (HG2.out.below hb3 HG2.out.lt)
  have HC3 : Hid (Chain w3 1 1 (.iface 38 (.pointer (some ⟨w.heap.size + 1, 0, none⟩)))) := Lib.hid ⟨_, _, _, _, rfl, HB3.out, rfl⟩
  clear hb3
  go_wp2_with fail
  refine (is_chain _ 1 _ 1 1 HC3.out true rfl).mono ?_
  rintro e w4 ⟨rfl, rfl⟩
  go_wp2_with fail
  refine (code_chain _ 1 _ 1 HC3.out HG3.out).mono ?_
  rintro e w4 ⟨rfl, hb4⟩
  have BB4 := Lib.hid (BB3.out.trans (hb4.mono BB3.out.size))
  clear hb4
  go_wp2_with fail
  refine (may_ok _ 1 1 (by decide) (by decide) (by decide) (by decide)).mono ?_
  rintro e w5 ⟨rfl, hb5⟩
  have BB5 := Lib.hid (BB4.out.trans (hb5.mono BB4.out.size))
  clear hb5
  go_wp2_with fail
  refine (code_nil _).mono ?_
  rintro e w6 ⟨rfl, rfl⟩
  go_wp2
  go_ret
  exact ⟨rfl, BB5.out⟩
end Go.Proofs.YtmebobflemfnfaaDoor
