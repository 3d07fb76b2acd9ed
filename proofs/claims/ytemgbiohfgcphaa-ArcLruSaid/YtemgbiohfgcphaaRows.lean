/-
  No cell of these rows narrows 'for every input' (looked for: loops, veiled, ifaces, maps, wideKeys, modest, calm, conditions, laid).
  DERIVED. THE GIVEN ROWS OF THIS SEAT. 6 by the template 'for every input the law returns true; each argument reads behind the call as it read before'; 0 by the template 'total and deterministic' (their statements: YtemgbiohfgcphaaTotals.lean).
  GIVEN WITH THE SEED: the statements are not yours to turn. If you find one false, say at which input.
  Laid BY PROGRAM, IN A SANDBOX (cutbox-rows.mjs): the forced cells as the released guide's own fill.sh prints them over the translation 0b8d76de54211adc… (all of the seat's roots in one cut). By AI agents, Wed Nov 11 2026. No macro, syntax, notation, axiom, sorry.
-/
import Derived.Test.YtemgbiohfgcphaaChecked
import GoSem.Claim
import GoSem.ClaimJoined
import GoSem.ClaimMapViews
import Derived.JoinedTies
import Derived.KernelRfl
namespace Go.Proofs.Ytemgbiohfgcphaa
/- THE CELL 'sum', in the pinned program and in every row, IS THE sha256 OF THE DUMP (.gsa) THAT YtemgbiohfgcphaaProg.lean LOADS. Nothing in Lean hashes anything: it is a label: what it is worth is what the hold of that sum in a sandbox is worth. -/
noncomputable def Try.pinned : Pinned := { name := "ytemgbiohfgcphaa", sum := "0b8d76de54211adca3ac127af33c3970f21311b8d3b1d5533aaa08ca5e818bc9", checked := Try.checked }
namespace Rows
def none {H : Type} : Left H := { results := [], args := [] }

/-- 'hopperlaw11.ArcSteps': WHATEVER THE INPUT: true; the input reads as it did. -/
def arcStepsSpec : ChangeSpec := { name := "arcSteps", fn := fun _ => fun
  | [d1, d2] => { results := [.lit (.bool true)], args := [d1, d2] }
  | _ => none }
def arcStepsRow : OpenClaim := { program := "ytemgbiohfgcphaa", sum := "0b8d76de54211adca3ac127af33c3970f21311b8d3b1d5533aaa08ca5e818bc9", func := "hopper/hopperlaw11.ArcSteps", spec := "arcSteps", unfollowed := true, recurses := true, apart := false }
def ArcStepsSaid : Prop := arcStepsRow.holds Try.pinned (OpenSpec.ofChange arcStepsSpec)

/-- ITS FALSE NEIGHBOUR: 'it returns false'. Refute it at one input. -/
def arcStepsWrong : ChangeSpec := { name := "arcSteps", fn := fun _ => fun
  | [d1, d2] => { results := [.lit (.bool false)], args := [d1, d2] }
  | _ => none }
def ArcStepsWrongFalsely : Prop := arcStepsRow.holds Try.pinned (OpenSpec.ofChange arcStepsWrong)

/-- 'hopperlaw11.ArcLooks': WHATEVER THE INPUT: true; the input reads as it did. -/
def arcLooksSpec : ChangeSpec := { name := "arcLooks", fn := fun _ => fun
  | [d1, d2, d3] => { results := [.lit (.bool true)], args := [d1, d2, d3] }
  | _ => none }
def arcLooksRow : OpenClaim := { program := "ytemgbiohfgcphaa", sum := "0b8d76de54211adca3ac127af33c3970f21311b8d3b1d5533aaa08ca5e818bc9", func := "hopper/hopperlaw11.ArcLooks", spec := "arcLooks", unfollowed := true, recurses := true, apart := false }
def ArcLooksSaid : Prop := arcLooksRow.holds Try.pinned (OpenSpec.ofChange arcLooksSpec)

/-- ITS FALSE NEIGHBOUR: 'it returns false'. Refute it at one input. -/
def arcLooksWrong : ChangeSpec := { name := "arcLooks", fn := fun _ => fun
  | [d1, d2, d3] => { results := [.lit (.bool false)], args := [d1, d2, d3] }
  | _ => none }
def ArcLooksWrongFalsely : Prop := arcLooksRow.holds Try.pinned (OpenSpec.ofChange arcLooksWrong)

/-- 'hopperlaw11.ArcEvicts': WHATEVER THE INPUT: true; the input reads as it did. -/
def arcEvictsSpec : ChangeSpec := { name := "arcEvicts", fn := fun _ => fun
  | [d1, d2, d3] => { results := [.lit (.bool true)], args := [d1, d2, d3] }
  | _ => none }
def arcEvictsRow : OpenClaim := { program := "ytemgbiohfgcphaa", sum := "0b8d76de54211adca3ac127af33c3970f21311b8d3b1d5533aaa08ca5e818bc9", func := "hopper/hopperlaw11.ArcEvicts", spec := "arcEvicts", unfollowed := true, recurses := true, apart := false }
def ArcEvictsSaid : Prop := arcEvictsRow.holds Try.pinned (OpenSpec.ofChange arcEvictsSpec)

/-- ITS FALSE NEIGHBOUR: 'it returns false'. Refute it at one input. -/
def arcEvictsWrong : ChangeSpec := { name := "arcEvicts", fn := fun _ => fun
  | [d1, d2, d3] => { results := [.lit (.bool false)], args := [d1, d2, d3] }
  | _ => none }
def ArcEvictsWrongFalsely : Prop := arcEvictsRow.holds Try.pinned (OpenSpec.ofChange arcEvictsWrong)

/-- 'hopperlaw11.ArcBounds': WHATEVER THE INPUT: true; the input reads as it did. -/
def arcBoundsSpec : ChangeSpec := { name := "arcBounds", fn := fun _ => fun
  | [d1, d2] => { results := [.lit (.bool true)], args := [d1, d2] }
  | _ => none }
def arcBoundsRow : OpenClaim := { program := "ytemgbiohfgcphaa", sum := "0b8d76de54211adca3ac127af33c3970f21311b8d3b1d5533aaa08ca5e818bc9", func := "hopper/hopperlaw11.ArcBounds", spec := "arcBounds", unfollowed := true, recurses := true, apart := false }
def ArcBoundsSaid : Prop := arcBoundsRow.holds Try.pinned (OpenSpec.ofChange arcBoundsSpec)

/-- ITS FALSE NEIGHBOUR: 'it returns false'. Refute it at one input. -/
def arcBoundsWrong : ChangeSpec := { name := "arcBounds", fn := fun _ => fun
  | [d1, d2] => { results := [.lit (.bool false)], args := [d1, d2] }
  | _ => none }
def ArcBoundsWrongFalsely : Prop := arcBoundsRow.holds Try.pinned (OpenSpec.ofChange arcBoundsWrong)

/-- 'hopperlaw11.ArcLru': WHATEVER THE INPUT: true; the input reads as it did. -/
def arcLruSpec : ChangeSpec := { name := "arcLru", fn := fun _ => fun
  | [d1, d2] => { results := [.lit (.bool true)], args := [d1, d2] }
  | _ => none }
def arcLruRow : OpenClaim := { program := "ytemgbiohfgcphaa", sum := "0b8d76de54211adca3ac127af33c3970f21311b8d3b1d5533aaa08ca5e818bc9", func := "hopper/hopperlaw11.ArcLru", spec := "arcLru", unfollowed := true, recurses := true, apart := false }
def ArcLruSaid : Prop := arcLruRow.holds Try.pinned (OpenSpec.ofChange arcLruSpec)

/-- ITS FALSE NEIGHBOUR: 'it returns false'. Refute it at one input. -/
def arcLruWrong : ChangeSpec := { name := "arcLru", fn := fun _ => fun
  | [d1, d2] => { results := [.lit (.bool false)], args := [d1, d2] }
  | _ => none }
def ArcLruWrongFalsely : Prop := arcLruRow.holds Try.pinned (OpenSpec.ofChange arcLruWrong)

/-- 'hopperlaw11.ArcLearns': WHATEVER THE INPUT: true; the input reads as it did. -/
def arcLearnsSpec : ChangeSpec := { name := "arcLearns", fn := fun _ => fun
  | [d1, d2, d3] => { results := [.lit (.bool true)], args := [d1, d2, d3] }
  | _ => none }
def arcLearnsRow : OpenClaim := { program := "ytemgbiohfgcphaa", sum := "0b8d76de54211adca3ac127af33c3970f21311b8d3b1d5533aaa08ca5e818bc9", func := "hopper/hopperlaw11.ArcLearns", spec := "arcLearns", unfollowed := true, recurses := true, apart := false }
def ArcLearnsSaid : Prop := arcLearnsRow.holds Try.pinned (OpenSpec.ofChange arcLearnsSpec)

/-- ITS FALSE NEIGHBOUR: 'it returns false'. Refute it at one input. -/
def arcLearnsWrong : ChangeSpec := { name := "arcLearns", fn := fun _ => fun
  | [d1, d2, d3] => { results := [.lit (.bool false)], args := [d1, d2, d3] }
  | _ => none }
def ArcLearnsWrongFalsely : Prop := arcLearnsRow.holds Try.pinned (OpenSpec.ofChange arcLearnsWrong)

/- THE SECOND FORM. 'bulk': how many values and letters a reading holds, each counted each time it is reached (what is shared counts as often as it is met; a slice's spare places count too). A statement '..UptoSaid' is the law's where the arguments, and the package variables that the reading takes, are together of bulk at most 1048576: NARROWER than '..Said'. Prove '..Said' where nothing that the law and all that it calls make is longer than what came in: it says more and counts as full. Else prove '..UptoSaid'. A law counts once. -/
mutual
def uptoBulk {H : Type} : DataW H → Nat
  | .lit (.string bytes) => bytes.length + 1
  | .lit _ => 1
  | .nil => 1
  | .ptr d => uptoBulk d + 1
  | .slice elems spare => uptoBulkAll elems + uptoBulkAll spare + 1
  | .agg parts => uptoBulkAll parts + 1
  | .iface _ d => uptoBulk d + 1
  | .map entries => uptoBulkEntries entries + 1
  | .held _ => 1
def uptoBulkAll {H : Type} : List (DataW H) → Nat
  | [] => 0
  | d :: r => uptoBulk d + uptoBulkAll r
def uptoBulkEntries {H : Type} : List (Lit × DataW H) → Nat
  | [] => 0
  | x :: r => uptoBulkEntry x + uptoBulkEntries r
def uptoBulkEntry {H : Type} : Lit × DataW H → Nat
  | (.string bytes, d) => bytes.length + uptoBulk d + 1
  | (_, d) => uptoBulk d + 1
 end
def uptoSmall : (H : Type) → List (DataW H) → Bool := fun _ ds => decide (uptoBulkAll ds ≤ 1048576)
def OpenSpec.upto (s : _root_.Go.ChangeSpec) : _root_.Go.OpenSpec := { _root_.Go.OpenSpec.ofChange s with cond := some uptoSmall }

/-- 'hopperlaw11.ArcSteps', WHERE WHAT IT READS IS OF BULK AT MOST 1048576: true; the input reads as it did. -/
def arcStepsUptoRow : OpenClaim := { program := "ytemgbiohfgcphaa", sum := "0b8d76de54211adca3ac127af33c3970f21311b8d3b1d5533aaa08ca5e818bc9", func := "hopper/hopperlaw11.ArcSteps", spec := "arcSteps", unfollowed := true, recurses := true, apart := false, narrowed := true }
def ArcStepsUptoSaid : Prop := arcStepsUptoRow.holds Try.pinned (OpenSpec.upto arcStepsSpec)

/-- 'hopperlaw11.ArcLooks', WHERE WHAT IT READS IS OF BULK AT MOST 1048576: true; the input reads as it did. -/
def arcLooksUptoRow : OpenClaim := { program := "ytemgbiohfgcphaa", sum := "0b8d76de54211adca3ac127af33c3970f21311b8d3b1d5533aaa08ca5e818bc9", func := "hopper/hopperlaw11.ArcLooks", spec := "arcLooks", unfollowed := true, recurses := true, apart := false, narrowed := true }
def ArcLooksUptoSaid : Prop := arcLooksUptoRow.holds Try.pinned (OpenSpec.upto arcLooksSpec)

/-- 'hopperlaw11.ArcEvicts', WHERE WHAT IT READS IS OF BULK AT MOST 1048576: true; the input reads as it did. -/
def arcEvictsUptoRow : OpenClaim := { program := "ytemgbiohfgcphaa", sum := "0b8d76de54211adca3ac127af33c3970f21311b8d3b1d5533aaa08ca5e818bc9", func := "hopper/hopperlaw11.ArcEvicts", spec := "arcEvicts", unfollowed := true, recurses := true, apart := false, narrowed := true }
def ArcEvictsUptoSaid : Prop := arcEvictsUptoRow.holds Try.pinned (OpenSpec.upto arcEvictsSpec)

/-- 'hopperlaw11.ArcBounds', WHERE WHAT IT READS IS OF BULK AT MOST 1048576: true; the input reads as it did. -/
def arcBoundsUptoRow : OpenClaim := { program := "ytemgbiohfgcphaa", sum := "0b8d76de54211adca3ac127af33c3970f21311b8d3b1d5533aaa08ca5e818bc9", func := "hopper/hopperlaw11.ArcBounds", spec := "arcBounds", unfollowed := true, recurses := true, apart := false, narrowed := true }
def ArcBoundsUptoSaid : Prop := arcBoundsUptoRow.holds Try.pinned (OpenSpec.upto arcBoundsSpec)

/-- 'hopperlaw11.ArcLru', WHERE WHAT IT READS IS OF BULK AT MOST 1048576: true; the input reads as it did. -/
def arcLruUptoRow : OpenClaim := { program := "ytemgbiohfgcphaa", sum := "0b8d76de54211adca3ac127af33c3970f21311b8d3b1d5533aaa08ca5e818bc9", func := "hopper/hopperlaw11.ArcLru", spec := "arcLru", unfollowed := true, recurses := true, apart := false, narrowed := true }
def ArcLruUptoSaid : Prop := arcLruUptoRow.holds Try.pinned (OpenSpec.upto arcLruSpec)

/-- 'hopperlaw11.ArcLearns', WHERE WHAT IT READS IS OF BULK AT MOST 1048576: true; the input reads as it did. -/
def arcLearnsUptoRow : OpenClaim := { program := "ytemgbiohfgcphaa", sum := "0b8d76de54211adca3ac127af33c3970f21311b8d3b1d5533aaa08ca5e818bc9", func := "hopper/hopperlaw11.ArcLearns", spec := "arcLearns", unfollowed := true, recurses := true, apart := false, narrowed := true }
def ArcLearnsUptoSaid : Prop := arcLearnsUptoRow.holds Try.pinned (OpenSpec.upto arcLearnsSpec)

end Rows
end Go.Proofs.Ytemgbiohfgcphaa
