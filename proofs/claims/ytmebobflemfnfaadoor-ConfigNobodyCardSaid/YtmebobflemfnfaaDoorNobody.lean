/- The walk of the law ConfigNobody. -/
import Derived.Test.YtmebobflemfnfaaDoorAwake
namespace Go.Proofs.YtmebobflemfnfaaDoor
open Go Go.RowKit

set_option maxRecDepth 100000 in
set_option maxHeartbeats 4000000 in
theorem nobody_true (w : World) (m : Nat) (hm : m < 256) (hg : ErrT w) :
    Calls Tryd.prog 7 #[.int .u8 (m : Int)] w fun e w' => e = .returned (.bool true) ∧ Below w.heap.size w w' := by
  have HG := Lib.hid hg
  have hlt := hg.lt
  clear hg
  go_enter Tryd.func7, Tryd.ntmps7
  go_wp2_with fail
  refine (awake_true _ HG.out).mono ?_
  rintro e w1 ⟨rfl, hb1⟩
  have BB1 := Lib.hid hb1
  have HG1 := Lib.hid (HG.out.below hb1 hlt)
  clear hb1
  go_wp2_with fail
  refine (field_nil _).mono ?_
  rintro e w2 ⟨rfl, hb2⟩
  have BB2 := Lib.hid (BB1.out.trans (hb2.mono BB1.out.size))
  have HG2 := Lib.hid (HG1.out.below hb2 HG1.out.lt)
  clear hb2
  go_wp2_with fail
  refine (error_nil _).mono ?_
  rintro e w3 ⟨rfl, hb3⟩
  have BB3 := Lib.hid (BB2.out.trans (hb3.mono BB2.out.size))
  have HG3 := Lib.hid (HG2.out.below hb3 HG2.out.lt)
  clear hb3
  go_wp2_with fail
  refine (unwrap_nil _).mono ?_
  rintro e w4 ⟨rfl, rfl⟩
  go_wp2_with fail
  refine (wrap_zero _).mono ?_
  rintro e w4 ⟨rfl, rfl⟩
  go_wp2_with fail
  refine (wrap_chain _ 0 _ 2 m hm rfl).mono ?_
  rintro e w4 ⟨v, rfl, hch, hb4⟩
  have BB4 := Lib.hid (BB3.out.trans (hb4.mono BB3.out.size))
  have HG4 := Lib.hid (HG3.out.below hb4 HG3.out.lt)
  have HC4 := Lib.hid hch
  clear hb4 hch
  go_wp2_with fail
  refine (code_chain _ _ _ 2 HC4.out HG4.out).mono ?_
  rintro e w5 ⟨rfl, hb5⟩
  have BB5 := Lib.hid (BB4.out.trans (hb5.mono BB4.out.size))
  clear hb5
  go_wp2
  go_ret
  exact ⟨rfl, BB5.out⟩
end Go.Proofs.YtmebobflemfnfaaDoor
