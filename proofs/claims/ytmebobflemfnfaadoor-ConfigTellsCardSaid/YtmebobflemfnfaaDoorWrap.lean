/- The law's wrap: a number within *Bad's, wrapped further. -/
import Derived.Test.YtmebobflemfnfaaDoorCode
namespace Go.Proofs.YtmebobflemfnfaaDoor
open Go Go.RowKit

/- The loop's relation: j rounds are done. -/
def WrapAt (w : World) (c : Int) (k m : Nat) (g : Nat) (v i : Value) (wr : World) : Prop :=
  ∃ j : Nat, j + g = m ∧ i = .int .i64 (j : Int) ∧ Chain wr c (k + j) v ∧ Below w.heap.size w wr

theorem wrap_step {w wr : World} {c : Int} {k m g j : Nat} {v : Value} (hj : j + (g + 1) = m) (hc : Chain wr c (k + j) v) (hb : Below w.heap.size w wr) (i : Value) (hi : i = .int .i64 ((j : Int) + 1)) :
    WrapAt w c k m g (.iface 38 (.pointer (some ⟨wr.heap.size, 0, none⟩))) i (wr.alloc (.cells #[.string ⟨#[120]⟩, .int .i64 (j : Int), v] 40)) := by
  refine ⟨j + 1, by omega, by rw [hi]; rfl, ?_, hb.alloc hb.size _⟩
  exact ⟨wr.heap.size, ⟨#[120]⟩, j, v, rfl, heap_alloc_new _ _ _ rfl, hc.below ((Below.refl _ _).alloc (Nat.le_refl _) _) rfl⟩

def WrapPost (w : World) (c : Int) (k : Nat) (e : Ending) (w' : World) : Prop :=
  ∃ v, e = .returned v ∧ Chain w' c k v ∧ Below w.heap.size w w'

theorem wrap_chain (w : World) (k : Nat) (v : Value) (c : Int) (m : Nat) (hm : m < 256) (hch : Chain w c k v) :
    Calls Tryd.prog 12 #[v, .int .u8 (m : Int)] w (WrapPost w c (k + m % 20)) := by
  have HC := Lib.hid hch
  clear hch
  go_enter Tryd.func12, Tryd.ntmps12
  go_wp2_with fail
  go_loopg [0, 5] (m % 20) (fun g v i wr => WrapAt w c k (m % 20) g v i wr)
  case atStart => exact ⟨0, by omega, rfl, HC.out, Below.refl _ _⟩
  case round =>
    obtain ⟨j, hj, rfl, hc, hb⟩ := hrel
    have HC2 := Lib.hid hc
    obtain ⟨T, x, rfl⟩ := hc.iface
    have HB2 := Lib.hid hb
    clear hc hb
    cases gk with
    | zero =>
      have hj2 : ¬ ((j : Int) < (m : Int) % 20) := by omega
      obtain rfl : j = m % 20 := by omega
      go_wp2
      go_ret
      exact ⟨_, rfl, HC2.out, HB2.out⟩
    | succ g =>
      have hj2 : (j : Int) < (m : Int) % 20 := by omega
      have hj3 : (j : Int) < 20 := by omega
      go_wp2
      go_roundg g
      case measure => omega
      case rel => exact wrap_step hj HC2.out HB2.out _ rfl

theorem wrap_zero (w : World) : Calls Tryd.prog 12 #[.nilIface, .int .u8 0] w fun e w' => e = .returned .nilIface ∧ w = w' := by
  go_enter Tryd.func12, Tryd.ntmps12
  go_wp2_with fail
  refine wp_loop_rounds 1 ?_
  rw [rounds_succ]
  go_wp2
  go_ret
  exact ⟨rfl, rfl⟩
end Go.Proofs.YtmebobflemfnfaaDoor
