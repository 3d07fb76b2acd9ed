/-
  No cell of these rows narrows 'for every input' (looked for: loops, veiled, ifaces, maps, wideKeys, modest, calm, conditions, laid).
  DERIVED. THE GIVEN ROWS OF THIS SEAT. 5 by the template 'for every input the law returns true; each argument reads behind the call as it read before'; 0 by the template 'total and deterministic' (their statements: YtnpkkclifgakfaaTotals.lean).
  GIVEN WITH THE SEED: the statements are not yours to turn. If you find one false, say at which input.
  Laid BY PROGRAM, IN A SANDBOX (cutbox-rows.mjs): the forced cells as the released guide's own fill.sh prints them over the translation 48ee51be00f7fe30… (all of the seat's roots in one cut). By AI agents, Wed Nov 11 2026. No macro, syntax, notation, axiom, sorry.
-/
import Derived.Test.YtnpkkclifgakfaaChecked
import GoSem.Claim
import GoSem.ClaimJoined
import GoSem.ClaimMapViews
import Derived.JoinedTies
import Derived.KernelRfl
namespace Go.Proofs.Ytnpkkclifgakfaa
/- THE CELL 'sum', in the pinned program and in every row, IS THE sha256 OF THE DUMP (.gsa) THAT YtnpkkclifgakfaaProg.lean LOADS. Nothing in Lean hashes anything: it is a label: what it is worth is what the hold of that sum in a sandbox is worth. -/
noncomputable def Try.pinned : Pinned := { name := "ytnpkkclifgakfaa", sum := "48ee51be00f7fe309ca8e6b96362b13cb8b354de756ed65843b8bada5bad8266", checked := Try.checked }
namespace Rows
def none {H : Type} : Left H := { results := [], args := [] }

/-- 'hopperlaw09.TwoqSteps': WHATEVER THE INPUT: true; the input reads as it did. -/
def twoqStepsSpec : ChangeSpec := { name := "twoqSteps", fn := fun _ => fun
  | [d1, d2] => { results := [.lit (.bool true)], args := [d1, d2] }
  | _ => none }
def twoqStepsRow : OpenClaim := { program := "ytnpkkclifgakfaa", sum := "48ee51be00f7fe309ca8e6b96362b13cb8b354de756ed65843b8bada5bad8266", func := "hopper/hopperlaw09.TwoqSteps", spec := "twoqSteps", unfollowed := true, recurses := true, apart := false }
def TwoqStepsSaid : Prop := twoqStepsRow.holds Try.pinned (OpenSpec.ofChange twoqStepsSpec)

/-- ITS FALSE NEIGHBOUR: 'it returns false'. Refute it at one input. -/
def twoqStepsWrong : ChangeSpec := { name := "twoqSteps", fn := fun _ => fun
  | [d1, d2] => { results := [.lit (.bool false)], args := [d1, d2] }
  | _ => none }
def TwoqStepsWrongFalsely : Prop := twoqStepsRow.holds Try.pinned (OpenSpec.ofChange twoqStepsWrong)

/-- 'hopperlaw09.TwoqLooks': WHATEVER THE INPUT: true; the input reads as it did. -/
def twoqLooksSpec : ChangeSpec := { name := "twoqLooks", fn := fun _ => fun
  | [d1, d2, d3] => { results := [.lit (.bool true)], args := [d1, d2, d3] }
  | _ => none }
def twoqLooksRow : OpenClaim := { program := "ytnpkkclifgakfaa", sum := "48ee51be00f7fe309ca8e6b96362b13cb8b354de756ed65843b8bada5bad8266", func := "hopper/hopperlaw09.TwoqLooks", spec := "twoqLooks", unfollowed := true, recurses := true, apart := false }
def TwoqLooksSaid : Prop := twoqLooksRow.holds Try.pinned (OpenSpec.ofChange twoqLooksSpec)

/-- ITS FALSE NEIGHBOUR: 'it returns false'. Refute it at one input. -/
def twoqLooksWrong : ChangeSpec := { name := "twoqLooks", fn := fun _ => fun
  | [d1, d2, d3] => { results := [.lit (.bool false)], args := [d1, d2, d3] }
  | _ => none }
def TwoqLooksWrongFalsely : Prop := twoqLooksRow.holds Try.pinned (OpenSpec.ofChange twoqLooksWrong)

/-- 'hopperlaw09.TwoqEvicts': WHATEVER THE INPUT: true; the input reads as it did. -/
def twoqEvictsSpec : ChangeSpec := { name := "twoqEvicts", fn := fun _ => fun
  | [d1, d2, d3] => { results := [.lit (.bool true)], args := [d1, d2, d3] }
  | _ => none }
def twoqEvictsRow : OpenClaim := { program := "ytnpkkclifgakfaa", sum := "48ee51be00f7fe309ca8e6b96362b13cb8b354de756ed65843b8bada5bad8266", func := "hopper/hopperlaw09.TwoqEvicts", spec := "twoqEvicts", unfollowed := true, recurses := true, apart := false }
def TwoqEvictsSaid : Prop := twoqEvictsRow.holds Try.pinned (OpenSpec.ofChange twoqEvictsSpec)

/-- ITS FALSE NEIGHBOUR: 'it returns false'. Refute it at one input. -/
def twoqEvictsWrong : ChangeSpec := { name := "twoqEvicts", fn := fun _ => fun
  | [d1, d2, d3] => { results := [.lit (.bool false)], args := [d1, d2, d3] }
  | _ => none }
def TwoqEvictsWrongFalsely : Prop := twoqEvictsRow.holds Try.pinned (OpenSpec.ofChange twoqEvictsWrong)

/-- 'hopperlaw09.TwoqBounds': WHATEVER THE INPUT: true; the input reads as it did. -/
def twoqBoundsSpec : ChangeSpec := { name := "twoqBounds", fn := fun _ => fun
  | [d1, d2] => { results := [.lit (.bool true)], args := [d1, d2] }
  | _ => none }
def twoqBoundsRow : OpenClaim := { program := "ytnpkkclifgakfaa", sum := "48ee51be00f7fe309ca8e6b96362b13cb8b354de756ed65843b8bada5bad8266", func := "hopper/hopperlaw09.TwoqBounds", spec := "twoqBounds", unfollowed := true, recurses := true, apart := false }
def TwoqBoundsSaid : Prop := twoqBoundsRow.holds Try.pinned (OpenSpec.ofChange twoqBoundsSpec)

/-- ITS FALSE NEIGHBOUR: 'it returns false'. Refute it at one input. -/
def twoqBoundsWrong : ChangeSpec := { name := "twoqBounds", fn := fun _ => fun
  | [d1, d2] => { results := [.lit (.bool false)], args := [d1, d2] }
  | _ => none }
def TwoqBoundsWrongFalsely : Prop := twoqBoundsRow.holds Try.pinned (OpenSpec.ofChange twoqBoundsWrong)

/-- 'hopperlaw09.TwoqAgain': WHATEVER THE INPUT: true; the input reads as it did. -/
def twoqAgainSpec : ChangeSpec := { name := "twoqAgain", fn := fun _ => fun
  | [d1, d2, d3] => { results := [.lit (.bool true)], args := [d1, d2, d3] }
  | _ => none }
def twoqAgainRow : OpenClaim := { program := "ytnpkkclifgakfaa", sum := "48ee51be00f7fe309ca8e6b96362b13cb8b354de756ed65843b8bada5bad8266", func := "hopper/hopperlaw09.TwoqAgain", spec := "twoqAgain", unfollowed := true, recurses := true, apart := false }
def TwoqAgainSaid : Prop := twoqAgainRow.holds Try.pinned (OpenSpec.ofChange twoqAgainSpec)

/-- ITS FALSE NEIGHBOUR: 'it returns false'. Refute it at one input. -/
def twoqAgainWrong : ChangeSpec := { name := "twoqAgain", fn := fun _ => fun
  | [d1, d2, d3] => { results := [.lit (.bool false)], args := [d1, d2, d3] }
  | _ => none }
def TwoqAgainWrongFalsely : Prop := twoqAgainRow.holds Try.pinned (OpenSpec.ofChange twoqAgainWrong)

/- THE SECOND FORM. 'bulk': how many values and letters a reading holds, each counted each time it is reached (what is shared counts as often as it is met; a slice's spare places count too). A statement '..UptoSaid' is the law's where the arguments, and the package variables that the reading takes, are together of bulk at most 1048576: NARROWER than '..Said'. Prove '..Said' where nothing that the law and all that it calls make is longer than what came in: it says more and counts as full. Else prove '..UptoSaid'. A law counts once. -/
mutual
def uptoBulk {H : Type} : DataW H → Nat
  | .lit (.string bytes) => bytes.length + 1
  | .lit _ => 1
  | .nil => 1
  | .ptr d => uptoBulk d + 1
  | .slice elems spare => uptoBulkAll elems + uptoBulkAll spare + 1
  | .agg parts => uptoBulkAll parts + 1
  | .iface _ d => uptoBulk d + 1
  | .map entries => uptoBulkEntries entries + 1
  | .held _ => 1
def uptoBulkAll {H : Type} : List (DataW H) → Nat
  | [] => 0
  | d :: r => uptoBulk d + uptoBulkAll r
def uptoBulkEntries {H : Type} : List (Lit × DataW H) → Nat
  | [] => 0
  | x :: r => uptoBulkEntry x + uptoBulkEntries r
def uptoBulkEntry {H : Type} : Lit × DataW H → Nat
  | (.string bytes, d) => bytes.length + uptoBulk d + 1
  | (_, d) => uptoBulk d + 1
 end
def uptoSmall : (H : Type) → List (DataW H) → Bool := fun _ ds => decide (uptoBulkAll ds ≤ 1048576)
def OpenSpec.upto (s : _root_.Go.ChangeSpec) : _root_.Go.OpenSpec := { _root_.Go.OpenSpec.ofChange s with cond := some uptoSmall }

/-- 'hopperlaw09.TwoqSteps', WHERE WHAT IT READS IS OF BULK AT MOST 1048576: true; the input reads as it did. -/
def twoqStepsUptoRow : OpenClaim := { program := "ytnpkkclifgakfaa", sum := "48ee51be00f7fe309ca8e6b96362b13cb8b354de756ed65843b8bada5bad8266", func := "hopper/hopperlaw09.TwoqSteps", spec := "twoqSteps", unfollowed := true, recurses := true, apart := false, narrowed := true }
def TwoqStepsUptoSaid : Prop := twoqStepsUptoRow.holds Try.pinned (OpenSpec.upto twoqStepsSpec)

/-- 'hopperlaw09.TwoqLooks', WHERE WHAT IT READS IS OF BULK AT MOST 1048576: true; the input reads as it did. -/
def twoqLooksUptoRow : OpenClaim := { program := "ytnpkkclifgakfaa", sum := "48ee51be00f7fe309ca8e6b96362b13cb8b354de756ed65843b8bada5bad8266", func := "hopper/hopperlaw09.TwoqLooks", spec := "twoqLooks", unfollowed := true, recurses := true, apart := false, narrowed := true }
def TwoqLooksUptoSaid : Prop := twoqLooksUptoRow.holds Try.pinned (OpenSpec.upto twoqLooksSpec)

/-- 'hopperlaw09.TwoqEvicts', WHERE WHAT IT READS IS OF BULK AT MOST 1048576: true; the input reads as it did. -/
def twoqEvictsUptoRow : OpenClaim := { program := "ytnpkkclifgakfaa", sum := "48ee51be00f7fe309ca8e6b96362b13cb8b354de756ed65843b8bada5bad8266", func := "hopper/hopperlaw09.TwoqEvicts", spec := "twoqEvicts", unfollowed := true, recurses := true, apart := false, narrowed := true }
def TwoqEvictsUptoSaid : Prop := twoqEvictsUptoRow.holds Try.pinned (OpenSpec.upto twoqEvictsSpec)

/-- 'hopperlaw09.TwoqBounds', WHERE WHAT IT READS IS OF BULK AT MOST 1048576: true; the input reads as it did. -/
def twoqBoundsUptoRow : OpenClaim := { program := "ytnpkkclifgakfaa", sum := "48ee51be00f7fe309ca8e6b96362b13cb8b354de756ed65843b8bada5bad8266", func := "hopper/hopperlaw09.TwoqBounds", spec := "twoqBounds", unfollowed := true, recurses := true, apart := false, narrowed := true }
def TwoqBoundsUptoSaid : Prop := twoqBoundsUptoRow.holds Try.pinned (OpenSpec.upto twoqBoundsSpec)

/-- 'hopperlaw09.TwoqAgain', WHERE WHAT IT READS IS OF BULK AT MOST 1048576: true; the input reads as it did. -/
def twoqAgainUptoRow : OpenClaim := { program := "ytnpkkclifgakfaa", sum := "48ee51be00f7fe309ca8e6b96362b13cb8b354de756ed65843b8bada5bad8266", func := "hopper/hopperlaw09.TwoqAgain", spec := "twoqAgain", unfollowed := true, recurses := true, apart := false, narrowed := true }
def TwoqAgainUptoSaid : Prop := twoqAgainUptoRow.holds Try.pinned (OpenSpec.upto twoqAgainSpec)

end Rows
end Go.Proofs.Ytnpkkclifgakfaa
