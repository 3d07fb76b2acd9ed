/- The walks of the laws ConfigField and ConfigIs. -/
import Derived.Test.YtmebobflemfnfaaDoorAwake
namespace Go.Proofs.YtmebobflemfnfaaDoor
open Go Go.RowKit

/- The document's own answer: which field is wrong. -/
theorem refMay_ok (w : World) (p c : Int) (h1 : 1 ≤ p) (h2 : p ≤ 5) (h3 : 1 ≤ c) (h4 : c ≤ 1048576) :
    Calls Tryd.prog 10 #[.int .i64 p, .int .i64 c] w fun e w' => e = .returned (.int .i64 0) ∧ w = w' := by
  go_enter Tryd.func10, Tryd.ntmps10
  go_wp2
  go_ret
  exact ⟨rfl, rfl⟩
theorem refMay_policy (w : World) (p c : Int) (h : p < 1 ∨ 5 < p) :
    Calls Tryd.prog 10 #[.int .i64 p, .int .i64 c] w fun e w' => e = .returned (.int .i64 1) ∧ w = w' := by
  by_cases h1 : p < 1
  · go_enter Tryd.func10, Tryd.ntmps10
    go_wp2
    go_ret
    exact ⟨rfl, rfl⟩
  · have h2 : 5 < p := by omega
    go_enter Tryd.func10, Tryd.ntmps10
    go_wp2
    go_ret
    exact ⟨rfl, rfl⟩
theorem refMay_capacity (w : World) (p c : Int) (h1 : 1 ≤ p) (h2 : p ≤ 5) (h : c < 1 ∨ 1048576 < c) :
    Calls Tryd.prog 10 #[.int .i64 p, .int .i64 c] w fun e w' => e = .returned (.int .i64 2) ∧ w = w' := by
  by_cases h3 : c < 1
  · go_enter Tryd.func10, Tryd.ntmps10
    go_wp2
    go_ret
    exact ⟨rfl, rfl⟩
  · have h4 : 1048576 < c := by omega
    go_enter Tryd.func10, Tryd.ntmps10
    go_wp2
    go_ret
    exact ⟨rfl, rfl⟩

set_option maxRecDepth 100000 in
set_option maxHeartbeats 4000000 in
theorem field_ok (w : World) (p c : Int) (h1 : 1 ≤ p) (h2 : p ≤ 5) (h3 : 1 ≤ c) (h4 : c ≤ 1048576) (hg : ErrT w) :
    Calls Tryd.prog 5 #[.int .i64 p, .int .i64 c] w fun e w' => e = .returned (.bool true) ∧ Below w.heap.size w w' := by
  have HG := Lib.hid hg
  clear hg
  go_enter Tryd.func5, Tryd.ntmps5
  go_wp2_with fail
  refine (awake_true _ HG.out).mono ?_
  rintro e w1 ⟨rfl, hb1⟩
  have BB1 := Lib.hid hb1
  clear hb1
  go_wp2_with fail
  refine (may_ok _ p c h1 h2 h3 h4).mono ?_
  rintro e w2 ⟨rfl, hb2⟩
  have BB2 := Lib.hid (BB1.out.trans (hb2.mono BB1.out.size))
  clear hb2
  go_wp2_with fail
  refine (field_nil _).mono ?_
  rintro e w3 ⟨rfl, hb3⟩
  have BB3 := Lib.hid (BB2.out.trans (hb3.mono BB2.out.size))
  clear hb3
  go_wp2_with fail
  refine (refMay_ok _ p c h1 h2 h3 h4).mono ?_
  rintro e w4 ⟨rfl, rfl⟩
  go_wp2
  go_ret
  exact ⟨rfl, BB3.out⟩

set_option maxRecDepth 100000 in
set_option maxHeartbeats 4000000 in
theorem field_policy (w : World) (p c : Int) (h : p < 1 ∨ 5 < p) (hg : ErrT w) :
    Calls Tryd.prog 5 #[.int .i64 p, .int .i64 c] w fun e w' => e = .returned (.bool true) ∧ Below w.heap.size w w' := by
  have hsp : sPolicy.toList = [112, 111, 108, 105, 99, 121] := by kernel_rfl
  have hpp : (p == p) = true := by simp
  have HG := Lib.hid hg
  have hlt := hg.lt
  clear hg
  go_enter Tryd.func5, Tryd.ntmps5
  go_wp2_with fail
  refine (awake_true _ HG.out).mono ?_
  rintro e w1 ⟨rfl, hb1⟩
  have BB1 := Lib.hid hb1
  have HG1 := Lib.hid (HG.out.below hb1 hlt)
  clear hb1
  go_wp2_with fail
  refine (may_policy _ p c h).mono ?_
  rintro e w2 ⟨rfl, hbad, hb2, hsz⟩
  have BB2 := Lib.hid (BB1.out.trans (hb2.mono BB1.out.size))
  have HG2 := Lib.hid (HG1.out.below hb2 HG1.out.lt)
  have HB2 := Lib.hid hbad
  clear hb2 hbad hsz
  go_wp2_with fail
  refine (field_bad _ _ _ _ _ HB2.out HG2.out).mono ?_
  rintro e w3 ⟨rfl, hb3⟩
  have BB3 := Lib.hid (BB2.out.trans (hb3.mono BB2.out.size))
  clear hb3
  go_wp2_with fail
  refine (refMay_policy _ p c h).mono ?_
  rintro e w4 ⟨rfl, rfl⟩
  go_wp2
  go_ret
  exact ⟨rfl, BB3.out⟩

set_option maxRecDepth 100000 in
set_option maxHeartbeats 4000000 in
theorem field_capacity (w : World) (p c : Int) (h1 : 1 ≤ p) (h2 : p ≤ 5) (h : c < 1 ∨ 1048576 < c) (hg : ErrT w) :
    Calls Tryd.prog 5 #[.int .i64 p, .int .i64 c] w fun e w' => e = .returned (.bool true) ∧ Below w.heap.size w w' := by
  have hsp : sCapacity.toList = [99, 97, 112, 97, 99, 105, 116, 121] := by kernel_rfl
  have hpp : (c == c) = true := by simp
  have HG := Lib.hid hg
  have hlt := hg.lt
  clear hg
  go_enter Tryd.func5, Tryd.ntmps5
  go_wp2_with fail
  refine (awake_true _ HG.out).mono ?_
  rintro e w1 ⟨rfl, hb1⟩
  have BB1 := Lib.hid hb1
  have HG1 := Lib.hid (HG.out.below hb1 hlt)
  clear hb1
  go_wp2_with fail
  refine (may_capacity _ p c h1 h2 h).mono ?_
  rintro e w2 ⟨rfl, hbad, hb2, hsz⟩
  have BB2 := Lib.hid (BB1.out.trans (hb2.mono BB1.out.size))
  have HG2 := Lib.hid (HG1.out.below hb2 HG1.out.lt)
  have HB2 := Lib.hid hbad
  clear hb2 hbad hsz
  go_wp2_with fail
  refine (field_bad _ _ _ _ _ HB2.out HG2.out).mono ?_
  rintro e w3 ⟨rfl, hb3⟩
  have BB3 := Lib.hid (BB2.out.trans (hb3.mono BB2.out.size))
  clear hb3
  go_wp2_with fail
  refine (refMay_capacity _ p c h1 h2 h).mono ?_
  rintro e w4 ⟨rfl, rfl⟩
  go_wp2
  go_ret
  exact ⟨rfl, BB3.out⟩

theorem configField_true (w : World) (p c : Int) (hg : ErrT w) :
    Calls Tryd.prog 5 #[.int .i64 p, .int .i64 c] w fun e w' => e = .returned (.bool true) ∧ Below w.heap.size w w' := by
  by_cases h : p < 1 ∨ 5 < p
  · exact field_policy w p c h hg
  · by_cases h2 : c < 1 ∨ 1048576 < c
    · exact field_capacity w p c (by omega) (by omega) h2 hg
    · exact field_ok w p c (by omega) (by omega) (by omega) (by omega) hg

/- The law's wrap of whatever stands as an error: it ends. -/
def WrapAnyAt (w : World) (m : Nat) (g : Nat) (v i : Value) (wr : World) : Prop :=
  ∃ j : Nat, j + g = m ∧ i = .int .i64 (j : Int) ∧ (v = .nilIface ∨ ∃ T x, v = .iface T x) ∧ Below w.heap.size w wr

def WrapAnyPost (w : World) (e : Ending) (w' : World) : Prop := ∃ v, e = .returned v ∧ Below w.heap.size w w'

theorem wrap_any (w : World) (m : Nat) (hm : m < 256) :
    Calls Tryd.prog 12 #[.nilIface, .int .u8 (m : Int)] w (WrapAnyPost w) := by
  go_enter Tryd.func12, Tryd.ntmps12
  go_wp2_with fail
  go_loopg [0, 5] (m % 20) (fun g v i wr => WrapAnyAt w (m % 20) g v i wr)
  case atStart => exact ⟨0, by omega, rfl, .inl rfl, Below.refl _ _⟩
  case round =>
    obtain ⟨j, hj, rfl, hv, hb⟩ := hrel
    have HB2 := Lib.hid hb
    clear hb
    cases gk with
    | zero =>
      have hj2 : ¬ ((j : Int) < (m : Int) % 20) := by omega
      go_wp2
      go_ret
      exact ⟨_, rfl, HB2.out⟩
    | succ g =>
      have hj2 : (j : Int) < (m : Int) % 20 := by omega
      have hj3 : (j : Int) < 20 := by omega
      rcases hv with rfl | ⟨T, x, rfl⟩
      all_goals
        go_wp2
        go_roundg g
        case measure => omega
        case rel => exact ⟨j + 1, by omega, rfl, .inr ⟨_, _, rfl⟩, HB2.out.alloc HB2.out.size _⟩

set_option maxRecDepth 100000 in
set_option maxHeartbeats 4000000 in
theorem is_ok (w : World) (p c : Int) (m : Nat) (hm : m < 256) (h1 : 1 ≤ p) (h2 : p ≤ 5) (h3 : 1 ≤ c) (h4 : c ≤ 1048576) (hg : ErrT w) :
    Calls Tryd.prog 4 #[.int .i64 p, .int .i64 c, .int .u8 (m : Int)] w fun e w' => e = .returned (.bool true) ∧ Below w.heap.size w w' := by
  have HG := Lib.hid hg
  clear hg
  go_enter Tryd.func4, Tryd.ntmps4
  go_wp2_with fail
  refine (awake_true _ HG.out).mono ?_
  rintro e w1 ⟨rfl, hb1⟩
  have BB1 := Lib.hid hb1
  clear hb1
  go_wp2_with fail
  refine (may_ok _ p c h1 h2 h3 h4).mono ?_
  rintro e w2 ⟨rfl, hb2⟩
  have BB2 := Lib.hid (BB1.out.trans (hb2.mono BB1.out.size))
  clear hb2
  go_wp2_with fail
  refine (wrap_any _ m hm).mono ?_
  rintro e w3 ⟨v, rfl, hb3⟩
  have BB3 := Lib.hid (BB2.out.trans (hb3.mono BB2.out.size))
  clear hb3
  go_wp2_with fail
  refine (refMay_ok _ p c h1 h2 h3 h4).mono ?_
  rintro e w4 ⟨rfl, rfl⟩
  go_wp2
  go_ret
  exact ⟨rfl, BB3.out⟩

set_option maxRecDepth 100000 in
set_option maxHeartbeats 4000000 in
theorem is_bad (w : World) (p c : Int) (m : Nat) (hm : m < 256) (f : ByteArray) (n : Int) (hmay : ∀ w, Calls Tryd.prog 9 #[.int .i64 p, .int .i64 c] w (MayBad w f n)) (hg : ErrT w) :
    Calls Tryd.prog 4 #[.int .i64 p, .int .i64 c, .int .u8 (m : Int)] w fun e w' => e = .returned (.bool true) ∧ Below w.heap.size w w' := by
  have HM := Lib.hid hmay
  have HG := Lib.hid hg
  have hlt := hg.lt
  clear hg hmay
  go_enter Tryd.func4, Tryd.ntmps4
  go_wp2_with fail
  refine (awake_true _ HG.out).mono ?_
  rintro e w1 ⟨rfl, hb1⟩
  have BB1 := Lib.hid hb1
  have HG1 := Lib.hid (HG.out.below hb1 hlt)
  clear hb1
  go_wp2_with fail
  refine (HM.out _).mono ?_
  rintro e w2 ⟨rfl, hbad, hb2, hsz⟩
  have BB2 := Lib.hid (BB1.out.trans (hb2.mono BB1.out.size))
  have HG2 := Lib.hid (HG1.out.below hb2 HG1.out.lt)
  have HC2 : Hid (Chain w2 1 1 (.iface 38 (.pointer (some ⟨w1.heap.size + 1, 0, none⟩)))) := Lib.hid ⟨_, _, _, _, rfl, hbad, rfl⟩
  clear hb2 hbad hsz
  go_wp2_with fail
  refine (wrap_chain _ 1 _ 1 m hm HC2.out).mono ?_
  rintro e w3 ⟨v, rfl, hch, hb3⟩
  have BB3 := Lib.hid (BB2.out.trans (hb3.mono BB2.out.size))
  have HG3 := Lib.hid (HG2.out.below hb3 HG2.out.lt)
  have HC3 := Lib.hid hch
  clear hb3 hch
  go_wp2_with fail
  refine (is_chain _ _ _ 1 1 HC3.out true rfl).mono ?_
  rintro e w4 ⟨rfl, rfl⟩
  go_wp2_with fail
  refine (is_chain _ _ _ 1 2 HC3.out false rfl).mono ?_
  rintro e w4 ⟨rfl, rfl⟩
  go_wp2_with fail
  refine (code_chain _ _ _ 1 HC3.out HG3.out).mono ?_
  rintro e w4 ⟨rfl, hb4⟩
  have BB4 := Lib.hid (BB3.out.trans (hb4.mono BB3.out.size))
  clear hb4
  go_wp2
  go_ret
  exact ⟨rfl, BB4.out⟩

theorem configIs_true (w : World) (p c : Int) (m : Nat) (hm : m < 256) (hg : ErrT w) :
    Calls Tryd.prog 4 #[.int .i64 p, .int .i64 c, .int .u8 (m : Int)] w fun e w' => e = .returned (.bool true) ∧ Below w.heap.size w w' := by
  by_cases h : p < 1 ∨ 5 < p
  · exact is_bad w p c m hm _ _ (fun w => may_policy w p c h) hg
  · by_cases h2 : c < 1 ∨ 1048576 < c
    · exact is_bad w p c m hm _ _ (fun w => may_capacity w p c (by omega) (by omega) h2) hg
    · exact is_ok w p c m hm (by omega) (by omega) (by omega) (by omega) hg
end Go.Proofs.YtmebobflemfnfaaDoor
