/-
  No cell of these rows narrows 'for every input' (looked for: loops, veiled, ifaces, maps, wideKeys, modest, calm, conditions, laid).
  DERIVED. THE GIVEN ROWS OF THIS SEAT. 5 by the template 'for every input the law returns true; each argument reads behind the call as it read before'; 0 by the template 'total and deterministic' (their statements: YtlekhmpalcgbmaaTotals.lean).
  GIVEN WITH THE SEED: the statements are not yours to turn. If you find one false, say at which input.
  Laid BY PROGRAM, IN A SANDBOX (cutbox-rows.mjs): the forced cells as the released guide's own fill.sh prints them over the translation 637f0a7b29dc8f26… (all of the seat's roots in one cut). By AI agents, Wed Nov 11 2026. No macro, syntax, notation, axiom, sorry.
-/
import Derived.Test.YtlekhmpalcgbmaaChecked
import GoSem.Claim
import GoSem.ClaimJoined
import GoSem.ClaimMapViews
import Derived.JoinedTies
import Derived.KernelRfl
namespace Go.Proofs.Ytlekhmpalcgbmaa
/- THE CELL 'sum', in the pinned program and in every row, IS THE sha256 OF THE DUMP (.gsa) THAT YtlekhmpalcgbmaaProg.lean LOADS. Nothing in Lean hashes anything: it is a label: what it is worth is what the hold of that sum in a sandbox is worth. -/
noncomputable def Try.pinned : Pinned := { name := "ytlekhmpalcgbmaa", sum := "637f0a7b29dc8f26ee798c73c74f109a9244ebd4da0fdb6ff82b9d94cd26779b", checked := Try.checked }
namespace Rows
def none {H : Type} : Left H := { results := [], args := [] }

/-- 'hopperlaw10.SthreeSteps': WHATEVER THE INPUT: true; the input reads as it did. -/
def sthreeStepsSpec : ChangeSpec := { name := "sthreeSteps", fn := fun _ => fun
  | [d1, d2] => { results := [.lit (.bool true)], args := [d1, d2] }
  | _ => none }
def sthreeStepsRow : OpenClaim := { program := "ytlekhmpalcgbmaa", sum := "637f0a7b29dc8f26ee798c73c74f109a9244ebd4da0fdb6ff82b9d94cd26779b", func := "hopper/hopperlaw10.SthreeSteps", spec := "sthreeSteps", unfollowed := true, recurses := true, apart := false }
def SthreeStepsSaid : Prop := sthreeStepsRow.holds Try.pinned (OpenSpec.ofChange sthreeStepsSpec)

/-- ITS FALSE NEIGHBOUR: 'it returns false'. Refute it at one input. -/
def sthreeStepsWrong : ChangeSpec := { name := "sthreeSteps", fn := fun _ => fun
  | [d1, d2] => { results := [.lit (.bool false)], args := [d1, d2] }
  | _ => none }
def SthreeStepsWrongFalsely : Prop := sthreeStepsRow.holds Try.pinned (OpenSpec.ofChange sthreeStepsWrong)

/-- 'hopperlaw10.SthreeLooks': WHATEVER THE INPUT: true; the input reads as it did. -/
def sthreeLooksSpec : ChangeSpec := { name := "sthreeLooks", fn := fun _ => fun
  | [d1, d2, d3] => { results := [.lit (.bool true)], args := [d1, d2, d3] }
  | _ => none }
def sthreeLooksRow : OpenClaim := { program := "ytlekhmpalcgbmaa", sum := "637f0a7b29dc8f26ee798c73c74f109a9244ebd4da0fdb6ff82b9d94cd26779b", func := "hopper/hopperlaw10.SthreeLooks", spec := "sthreeLooks", unfollowed := true, recurses := true, apart := false }
def SthreeLooksSaid : Prop := sthreeLooksRow.holds Try.pinned (OpenSpec.ofChange sthreeLooksSpec)

/-- ITS FALSE NEIGHBOUR: 'it returns false'. Refute it at one input. -/
def sthreeLooksWrong : ChangeSpec := { name := "sthreeLooks", fn := fun _ => fun
  | [d1, d2, d3] => { results := [.lit (.bool false)], args := [d1, d2, d3] }
  | _ => none }
def SthreeLooksWrongFalsely : Prop := sthreeLooksRow.holds Try.pinned (OpenSpec.ofChange sthreeLooksWrong)

/-- 'hopperlaw10.SthreeEvicts': WHATEVER THE INPUT: true; the input reads as it did. -/
def sthreeEvictsSpec : ChangeSpec := { name := "sthreeEvicts", fn := fun _ => fun
  | [d1, d2, d3] => { results := [.lit (.bool true)], args := [d1, d2, d3] }
  | _ => none }
def sthreeEvictsRow : OpenClaim := { program := "ytlekhmpalcgbmaa", sum := "637f0a7b29dc8f26ee798c73c74f109a9244ebd4da0fdb6ff82b9d94cd26779b", func := "hopper/hopperlaw10.SthreeEvicts", spec := "sthreeEvicts", unfollowed := true, recurses := true, apart := false }
def SthreeEvictsSaid : Prop := sthreeEvictsRow.holds Try.pinned (OpenSpec.ofChange sthreeEvictsSpec)

/-- ITS FALSE NEIGHBOUR: 'it returns false'. Refute it at one input. -/
def sthreeEvictsWrong : ChangeSpec := { name := "sthreeEvicts", fn := fun _ => fun
  | [d1, d2, d3] => { results := [.lit (.bool false)], args := [d1, d2, d3] }
  | _ => none }
def SthreeEvictsWrongFalsely : Prop := sthreeEvictsRow.holds Try.pinned (OpenSpec.ofChange sthreeEvictsWrong)

/-- 'hopperlaw10.SthreeBounds': WHATEVER THE INPUT: true; the input reads as it did. -/
def sthreeBoundsSpec : ChangeSpec := { name := "sthreeBounds", fn := fun _ => fun
  | [d1, d2] => { results := [.lit (.bool true)], args := [d1, d2] }
  | _ => none }
def sthreeBoundsRow : OpenClaim := { program := "ytlekhmpalcgbmaa", sum := "637f0a7b29dc8f26ee798c73c74f109a9244ebd4da0fdb6ff82b9d94cd26779b", func := "hopper/hopperlaw10.SthreeBounds", spec := "sthreeBounds", unfollowed := true, recurses := true, apart := false }
def SthreeBoundsSaid : Prop := sthreeBoundsRow.holds Try.pinned (OpenSpec.ofChange sthreeBoundsSpec)

/-- ITS FALSE NEIGHBOUR: 'it returns false'. Refute it at one input. -/
def sthreeBoundsWrong : ChangeSpec := { name := "sthreeBounds", fn := fun _ => fun
  | [d1, d2] => { results := [.lit (.bool false)], args := [d1, d2] }
  | _ => none }
def SthreeBoundsWrongFalsely : Prop := sthreeBoundsRow.holds Try.pinned (OpenSpec.ofChange sthreeBoundsWrong)

/-- 'hopperlaw10.SthreeAgain': WHATEVER THE INPUT: true; the input reads as it did. -/
def sthreeAgainSpec : ChangeSpec := { name := "sthreeAgain", fn := fun _ => fun
  | [d1, d2, d3] => { results := [.lit (.bool true)], args := [d1, d2, d3] }
  | _ => none }
def sthreeAgainRow : OpenClaim := { program := "ytlekhmpalcgbmaa", sum := "637f0a7b29dc8f26ee798c73c74f109a9244ebd4da0fdb6ff82b9d94cd26779b", func := "hopper/hopperlaw10.SthreeAgain", spec := "sthreeAgain", unfollowed := true, recurses := true, apart := false }
def SthreeAgainSaid : Prop := sthreeAgainRow.holds Try.pinned (OpenSpec.ofChange sthreeAgainSpec)

/-- ITS FALSE NEIGHBOUR: 'it returns false'. Refute it at one input. -/
def sthreeAgainWrong : ChangeSpec := { name := "sthreeAgain", fn := fun _ => fun
  | [d1, d2, d3] => { results := [.lit (.bool false)], args := [d1, d2, d3] }
  | _ => none }
def SthreeAgainWrongFalsely : Prop := sthreeAgainRow.holds Try.pinned (OpenSpec.ofChange sthreeAgainWrong)

/- THE SECOND FORM. 'bulk': how many values and letters a reading holds, each counted each time it is reached (what is shared counts as often as it is met; a slice's spare places count too). A statement '..UptoSaid' is the law's where the arguments, and the package variables that the reading takes, are together of bulk at most 1048576: NARROWER than '..Said'. Prove '..Said' where nothing that the law and all that it calls make is longer than what came in: it says more and counts as full. Else prove '..UptoSaid'. A law counts once. -/
mutual
def uptoBulk {H : Type} : DataW H → Nat
  | .lit (.string bytes) => bytes.length + 1
  | .lit _ => 1
  | .nil => 1
  | .ptr d => uptoBulk d + 1
  | .slice elems spare => uptoBulkAll elems + uptoBulkAll spare + 1
  | .agg parts => uptoBulkAll parts + 1
  | .iface _ d => uptoBulk d + 1
  | .map entries => uptoBulkEntries entries + 1
  | .held _ => 1
def uptoBulkAll {H : Type} : List (DataW H) → Nat
  | [] => 0
  | d :: r => uptoBulk d + uptoBulkAll r
def uptoBulkEntries {H : Type} : List (Lit × DataW H) → Nat
  | [] => 0
  | x :: r => uptoBulkEntry x + uptoBulkEntries r
def uptoBulkEntry {H : Type} : Lit × DataW H → Nat
  | (.string bytes, d) => bytes.length + uptoBulk d + 1
  | (_, d) => uptoBulk d + 1
 end
def uptoSmall : (H : Type) → List (DataW H) → Bool := fun _ ds => decide (uptoBulkAll ds ≤ 1048576)
def OpenSpec.upto (s : _root_.Go.ChangeSpec) : _root_.Go.OpenSpec := { _root_.Go.OpenSpec.ofChange s with cond := some uptoSmall }

/-- 'hopperlaw10.SthreeSteps', WHERE WHAT IT READS IS OF BULK AT MOST 1048576: true; the input reads as it did. -/
def sthreeStepsUptoRow : OpenClaim := { program := "ytlekhmpalcgbmaa", sum := "637f0a7b29dc8f26ee798c73c74f109a9244ebd4da0fdb6ff82b9d94cd26779b", func := "hopper/hopperlaw10.SthreeSteps", spec := "sthreeSteps", unfollowed := true, recurses := true, apart := false, narrowed := true }
def SthreeStepsUptoSaid : Prop := sthreeStepsUptoRow.holds Try.pinned (OpenSpec.upto sthreeStepsSpec)

/-- 'hopperlaw10.SthreeLooks', WHERE WHAT IT READS IS OF BULK AT MOST 1048576: true; the input reads as it did. -/
def sthreeLooksUptoRow : OpenClaim := { program := "ytlekhmpalcgbmaa", sum := "637f0a7b29dc8f26ee798c73c74f109a9244ebd4da0fdb6ff82b9d94cd26779b", func := "hopper/hopperlaw10.SthreeLooks", spec := "sthreeLooks", unfollowed := true, recurses := true, apart := false, narrowed := true }
def SthreeLooksUptoSaid : Prop := sthreeLooksUptoRow.holds Try.pinned (OpenSpec.upto sthreeLooksSpec)

/-- 'hopperlaw10.SthreeEvicts', WHERE WHAT IT READS IS OF BULK AT MOST 1048576: true; the input reads as it did. -/
def sthreeEvictsUptoRow : OpenClaim := { program := "ytlekhmpalcgbmaa", sum := "637f0a7b29dc8f26ee798c73c74f109a9244ebd4da0fdb6ff82b9d94cd26779b", func := "hopper/hopperlaw10.SthreeEvicts", spec := "sthreeEvicts", unfollowed := true, recurses := true, apart := false, narrowed := true }
def SthreeEvictsUptoSaid : Prop := sthreeEvictsUptoRow.holds Try.pinned (OpenSpec.upto sthreeEvictsSpec)

/-- 'hopperlaw10.SthreeBounds', WHERE WHAT IT READS IS OF BULK AT MOST 1048576: true; the input reads as it did. -/
def sthreeBoundsUptoRow : OpenClaim := { program := "ytlekhmpalcgbmaa", sum := "637f0a7b29dc8f26ee798c73c74f109a9244ebd4da0fdb6ff82b9d94cd26779b", func := "hopper/hopperlaw10.SthreeBounds", spec := "sthreeBounds", unfollowed := true, recurses := true, apart := false, narrowed := true }
def SthreeBoundsUptoSaid : Prop := sthreeBoundsUptoRow.holds Try.pinned (OpenSpec.upto sthreeBoundsSpec)

/-- 'hopperlaw10.SthreeAgain', WHERE WHAT IT READS IS OF BULK AT MOST 1048576: true; the input reads as it did. -/
def sthreeAgainUptoRow : OpenClaim := { program := "ytlekhmpalcgbmaa", sum := "637f0a7b29dc8f26ee798c73c74f109a9244ebd4da0fdb6ff82b9d94cd26779b", func := "hopper/hopperlaw10.SthreeAgain", spec := "sthreeAgain", unfollowed := true, recurses := true, apart := false, narrowed := true }
def SthreeAgainUptoSaid : Prop := sthreeAgainUptoRow.holds Try.pinned (OpenSpec.upto sthreeAgainSpec)

end Rows
end Go.Proofs.Ytlekhmpalcgbmaa
