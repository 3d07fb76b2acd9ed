/-
  No cell of these rows narrows 'for every input' (looked for: loops, veiled, ifaces, maps, wideKeys, modest, calm, conditions, laid).
  DERIVED. THE GIVEN ROWS OF THIS SEAT. 10 by the template 'for every input the law returns true; each argument reads behind the call as it read before'; 0 by the template 'total and deterministic' (their statements: YtiokejhplbadeaaTotals.lean).
  GIVEN WITH THE SEED: the statements are not yours to turn. If you find one false, say at which input.
  Laid BY PROGRAM, IN A SANDBOX (cutbox-rows.mjs): the forced cells as the released guide's own fill.sh prints them over the translation 6ee3c209b4e2ed7b… (all of the seat's roots in one cut). By AI agents, Wed Nov 11 2026. No macro, syntax, notation, axiom, sorry.
-/
import Derived.Test.YtiokejhplbadeaaChecked
import GoSem.Claim
import GoSem.ClaimJoined
import GoSem.ClaimMapViews
import Derived.JoinedTies
import Derived.KernelRfl
namespace Go.Proofs.Ytiokejhplbadeaa
/- THE CELL 'sum', in the pinned program and in every row, IS THE sha256 OF THE DUMP (.gsa) THAT YtiokejhplbadeaaProg.lean LOADS. Nothing in Lean hashes anything: it is a label: what it is worth is what the hold of that sum in a sandbox is worth. -/
noncomputable def Try.pinned : Pinned := { name := "ytiokejhplbadeaa", sum := "6ee3c209b4e2ed7bd515bbfee61d0427db3c4ce01a5cdbcb7d061a79248f44db", checked := Try.checked }
namespace Rows
def none {H : Type} : Left H := { results := [], args := [] }

/-- 'hopperlaw08.LruSteps': WHATEVER THE INPUT: true; the input reads as it did. -/
def lruStepsSpec : ChangeSpec := { name := "lruSteps", fn := fun _ => fun
  | [d1, d2] => { results := [.lit (.bool true)], args := [d1, d2] }
  | _ => none }
def lruStepsRow : OpenClaim := { program := "ytiokejhplbadeaa", sum := "6ee3c209b4e2ed7bd515bbfee61d0427db3c4ce01a5cdbcb7d061a79248f44db", func := "hopper/hopperlaw08.LruSteps", spec := "lruSteps", unfollowed := true, recurses := true, apart := false }
def LruStepsSaid : Prop := lruStepsRow.holds Try.pinned (OpenSpec.ofChange lruStepsSpec)

/-- ITS FALSE NEIGHBOUR: 'it returns false'. Refute it at one input. -/
def lruStepsWrong : ChangeSpec := { name := "lruSteps", fn := fun _ => fun
  | [d1, d2] => { results := [.lit (.bool false)], args := [d1, d2] }
  | _ => none }
def LruStepsWrongFalsely : Prop := lruStepsRow.holds Try.pinned (OpenSpec.ofChange lruStepsWrong)

/-- 'hopperlaw08.LruLooks': WHATEVER THE INPUT: true; the input reads as it did. -/
def lruLooksSpec : ChangeSpec := { name := "lruLooks", fn := fun _ => fun
  | [d1, d2, d3] => { results := [.lit (.bool true)], args := [d1, d2, d3] }
  | _ => none }
def lruLooksRow : OpenClaim := { program := "ytiokejhplbadeaa", sum := "6ee3c209b4e2ed7bd515bbfee61d0427db3c4ce01a5cdbcb7d061a79248f44db", func := "hopper/hopperlaw08.LruLooks", spec := "lruLooks", unfollowed := true, recurses := true, apart := false }
def LruLooksSaid : Prop := lruLooksRow.holds Try.pinned (OpenSpec.ofChange lruLooksSpec)

/-- ITS FALSE NEIGHBOUR: 'it returns false'. Refute it at one input. -/
def lruLooksWrong : ChangeSpec := { name := "lruLooks", fn := fun _ => fun
  | [d1, d2, d3] => { results := [.lit (.bool false)], args := [d1, d2, d3] }
  | _ => none }
def LruLooksWrongFalsely : Prop := lruLooksRow.holds Try.pinned (OpenSpec.ofChange lruLooksWrong)

/-- 'hopperlaw08.LruEvicts': WHATEVER THE INPUT: true; the input reads as it did. -/
def lruEvictsSpec : ChangeSpec := { name := "lruEvicts", fn := fun _ => fun
  | [d1, d2, d3] => { results := [.lit (.bool true)], args := [d1, d2, d3] }
  | _ => none }
def lruEvictsRow : OpenClaim := { program := "ytiokejhplbadeaa", sum := "6ee3c209b4e2ed7bd515bbfee61d0427db3c4ce01a5cdbcb7d061a79248f44db", func := "hopper/hopperlaw08.LruEvicts", spec := "lruEvicts", unfollowed := true, recurses := true, apart := false }
def LruEvictsSaid : Prop := lruEvictsRow.holds Try.pinned (OpenSpec.ofChange lruEvictsSpec)

/-- ITS FALSE NEIGHBOUR: 'it returns false'. Refute it at one input. -/
def lruEvictsWrong : ChangeSpec := { name := "lruEvicts", fn := fun _ => fun
  | [d1, d2, d3] => { results := [.lit (.bool false)], args := [d1, d2, d3] }
  | _ => none }
def LruEvictsWrongFalsely : Prop := lruEvictsRow.holds Try.pinned (OpenSpec.ofChange lruEvictsWrong)

/-- 'hopperlaw08.LruStack': WHATEVER THE INPUT: true; the input reads as it did. -/
def lruStackSpec : ChangeSpec := { name := "lruStack", fn := fun _ => fun
  | [d1, d2] => { results := [.lit (.bool true)], args := [d1, d2] }
  | _ => none }
def lruStackRow : OpenClaim := { program := "ytiokejhplbadeaa", sum := "6ee3c209b4e2ed7bd515bbfee61d0427db3c4ce01a5cdbcb7d061a79248f44db", func := "hopper/hopperlaw08.LruStack", spec := "lruStack", unfollowed := true, recurses := true, apart := false }
def LruStackSaid : Prop := lruStackRow.holds Try.pinned (OpenSpec.ofChange lruStackSpec)

/-- ITS FALSE NEIGHBOUR: 'it returns false'. Refute it at one input. -/
def lruStackWrong : ChangeSpec := { name := "lruStack", fn := fun _ => fun
  | [d1, d2] => { results := [.lit (.bool false)], args := [d1, d2] }
  | _ => none }
def LruStackWrongFalsely : Prop := lruStackRow.holds Try.pinned (OpenSpec.ofChange lruStackWrong)

/-- 'hopperlaw08.LruBounds': WHATEVER THE INPUT: true; the input reads as it did. -/
def lruBoundsSpec : ChangeSpec := { name := "lruBounds", fn := fun _ => fun
  | [d1, d2, d3] => { results := [.lit (.bool true)], args := [d1, d2, d3] }
  | _ => none }
def lruBoundsRow : OpenClaim := { program := "ytiokejhplbadeaa", sum := "6ee3c209b4e2ed7bd515bbfee61d0427db3c4ce01a5cdbcb7d061a79248f44db", func := "hopper/hopperlaw08.LruBounds", spec := "lruBounds", unfollowed := true, recurses := true, apart := false }
def LruBoundsSaid : Prop := lruBoundsRow.holds Try.pinned (OpenSpec.ofChange lruBoundsSpec)

/-- ITS FALSE NEIGHBOUR: 'it returns false'. Refute it at one input. -/
def lruBoundsWrong : ChangeSpec := { name := "lruBounds", fn := fun _ => fun
  | [d1, d2, d3] => { results := [.lit (.bool false)], args := [d1, d2, d3] }
  | _ => none }
def LruBoundsWrongFalsely : Prop := lruBoundsRow.holds Try.pinned (OpenSpec.ofChange lruBoundsWrong)

/-- 'hopperlaw09.TwoqSteps': WHATEVER THE INPUT: true; the input reads as it did. -/
def twoqStepsSpec : ChangeSpec := { name := "twoqSteps", fn := fun _ => fun
  | [d1, d2] => { results := [.lit (.bool true)], args := [d1, d2] }
  | _ => none }
def twoqStepsRow : OpenClaim := { program := "ytiokejhplbadeaa", sum := "6ee3c209b4e2ed7bd515bbfee61d0427db3c4ce01a5cdbcb7d061a79248f44db", func := "hopper/hopperlaw09.TwoqSteps", spec := "twoqSteps", unfollowed := true, recurses := true, apart := false }
def TwoqStepsSaid : Prop := twoqStepsRow.holds Try.pinned (OpenSpec.ofChange twoqStepsSpec)

/-- ITS FALSE NEIGHBOUR: 'it returns false'. Refute it at one input. -/
def twoqStepsWrong : ChangeSpec := { name := "twoqSteps", fn := fun _ => fun
  | [d1, d2] => { results := [.lit (.bool false)], args := [d1, d2] }
  | _ => none }
def TwoqStepsWrongFalsely : Prop := twoqStepsRow.holds Try.pinned (OpenSpec.ofChange twoqStepsWrong)

/-- 'hopperlaw09.TwoqLooks': WHATEVER THE INPUT: true; the input reads as it did. -/
def twoqLooksSpec : ChangeSpec := { name := "twoqLooks", fn := fun _ => fun
  | [d1, d2, d3] => { results := [.lit (.bool true)], args := [d1, d2, d3] }
  | _ => none }
def twoqLooksRow : OpenClaim := { program := "ytiokejhplbadeaa", sum := "6ee3c209b4e2ed7bd515bbfee61d0427db3c4ce01a5cdbcb7d061a79248f44db", func := "hopper/hopperlaw09.TwoqLooks", spec := "twoqLooks", unfollowed := true, recurses := true, apart := false }
def TwoqLooksSaid : Prop := twoqLooksRow.holds Try.pinned (OpenSpec.ofChange twoqLooksSpec)

/-- ITS FALSE NEIGHBOUR: 'it returns false'. Refute it at one input. -/
def twoqLooksWrong : ChangeSpec := { name := "twoqLooks", fn := fun _ => fun
  | [d1, d2, d3] => { results := [.lit (.bool false)], args := [d1, d2, d3] }
  | _ => none }
def TwoqLooksWrongFalsely : Prop := twoqLooksRow.holds Try.pinned (OpenSpec.ofChange twoqLooksWrong)

/-- 'hopperlaw09.TwoqEvicts': WHATEVER THE INPUT: true; the input reads as it did. -/
def twoqEvictsSpec : ChangeSpec := { name := "twoqEvicts", fn := fun _ => fun
  | [d1, d2, d3] => { results := [.lit (.bool true)], args := [d1, d2, d3] }
  | _ => none }
def twoqEvictsRow : OpenClaim := { program := "ytiokejhplbadeaa", sum := "6ee3c209b4e2ed7bd515bbfee61d0427db3c4ce01a5cdbcb7d061a79248f44db", func := "hopper/hopperlaw09.TwoqEvicts", spec := "twoqEvicts", unfollowed := true, recurses := true, apart := false }
def TwoqEvictsSaid : Prop := twoqEvictsRow.holds Try.pinned (OpenSpec.ofChange twoqEvictsSpec)

/-- ITS FALSE NEIGHBOUR: 'it returns false'. Refute it at one input. -/
def twoqEvictsWrong : ChangeSpec := { name := "twoqEvicts", fn := fun _ => fun
  | [d1, d2, d3] => { results := [.lit (.bool false)], args := [d1, d2, d3] }
  | _ => none }
def TwoqEvictsWrongFalsely : Prop := twoqEvictsRow.holds Try.pinned (OpenSpec.ofChange twoqEvictsWrong)

/-- 'hopperlaw09.TwoqBounds': WHATEVER THE INPUT: true; the input reads as it did. -/
def twoqBoundsSpec : ChangeSpec := { name := "twoqBounds", fn := fun _ => fun
  | [d1, d2] => { results := [.lit (.bool true)], args := [d1, d2] }
  | _ => none }
def twoqBoundsRow : OpenClaim := { program := "ytiokejhplbadeaa", sum := "6ee3c209b4e2ed7bd515bbfee61d0427db3c4ce01a5cdbcb7d061a79248f44db", func := "hopper/hopperlaw09.TwoqBounds", spec := "twoqBounds", unfollowed := true, recurses := true, apart := false }
def TwoqBoundsSaid : Prop := twoqBoundsRow.holds Try.pinned (OpenSpec.ofChange twoqBoundsSpec)

/-- ITS FALSE NEIGHBOUR: 'it returns false'. Refute it at one input. -/
def twoqBoundsWrong : ChangeSpec := { name := "twoqBounds", fn := fun _ => fun
  | [d1, d2] => { results := [.lit (.bool false)], args := [d1, d2] }
  | _ => none }
def TwoqBoundsWrongFalsely : Prop := twoqBoundsRow.holds Try.pinned (OpenSpec.ofChange twoqBoundsWrong)

/-- 'hopperlaw09.TwoqAgain': WHATEVER THE INPUT: true; the input reads as it did. -/
def twoqAgainSpec : ChangeSpec := { name := "twoqAgain", fn := fun _ => fun
  | [d1, d2, d3] => { results := [.lit (.bool true)], args := [d1, d2, d3] }
  | _ => none }
def twoqAgainRow : OpenClaim := { program := "ytiokejhplbadeaa", sum := "6ee3c209b4e2ed7bd515bbfee61d0427db3c4ce01a5cdbcb7d061a79248f44db", func := "hopper/hopperlaw09.TwoqAgain", spec := "twoqAgain", unfollowed := true, recurses := true, apart := false }
def TwoqAgainSaid : Prop := twoqAgainRow.holds Try.pinned (OpenSpec.ofChange twoqAgainSpec)

/-- ITS FALSE NEIGHBOUR: 'it returns false'. Refute it at one input. -/
def twoqAgainWrong : ChangeSpec := { name := "twoqAgain", fn := fun _ => fun
  | [d1, d2, d3] => { results := [.lit (.bool false)], args := [d1, d2, d3] }
  | _ => none }
def TwoqAgainWrongFalsely : Prop := twoqAgainRow.holds Try.pinned (OpenSpec.ofChange twoqAgainWrong)

/- THE SECOND FORM. 'bulk': how many values and letters a reading holds, each counted each time it is reached (what is shared counts as often as it is met; a slice's spare places count too). A statement '..UptoSaid' is the law's where the arguments, and the package variables that the reading takes, are together of bulk at most 1048576: NARROWER than '..Said'. Prove '..Said' where nothing that the law and all that it calls make is longer than what came in: it says more and counts as full. Else prove '..UptoSaid'. A law counts once. -/
mutual
def uptoBulk {H : Type} : DataW H → Nat
  | .lit (.string bytes) => bytes.length + 1
  | .lit _ => 1
  | .nil => 1
  | .ptr d => uptoBulk d + 1
  | .slice elems spare => uptoBulkAll elems + uptoBulkAll spare + 1
  | .agg parts => uptoBulkAll parts + 1
  | .iface _ d => uptoBulk d + 1
  | .map entries => uptoBulkEntries entries + 1
  | .held _ => 1
def uptoBulkAll {H : Type} : List (DataW H) → Nat
  | [] => 0
  | d :: r => uptoBulk d + uptoBulkAll r
def uptoBulkEntries {H : Type} : List (Lit × DataW H) → Nat
  | [] => 0
  | x :: r => uptoBulkEntry x + uptoBulkEntries r
def uptoBulkEntry {H : Type} : Lit × DataW H → Nat
  | (.string bytes, d) => bytes.length + uptoBulk d + 1
  | (_, d) => uptoBulk d + 1
 end
def uptoSmall : (H : Type) → List (DataW H) → Bool := fun _ ds => decide (uptoBulkAll ds ≤ 1048576)
def OpenSpec.upto (s : _root_.Go.ChangeSpec) : _root_.Go.OpenSpec := { _root_.Go.OpenSpec.ofChange s with cond := some uptoSmall }

/-- 'hopperlaw08.LruSteps', WHERE WHAT IT READS IS OF BULK AT MOST 1048576: true; the input reads as it did. -/
def lruStepsUptoRow : OpenClaim := { program := "ytiokejhplbadeaa", sum := "6ee3c209b4e2ed7bd515bbfee61d0427db3c4ce01a5cdbcb7d061a79248f44db", func := "hopper/hopperlaw08.LruSteps", spec := "lruSteps", unfollowed := true, recurses := true, apart := false, narrowed := true }
def LruStepsUptoSaid : Prop := lruStepsUptoRow.holds Try.pinned (OpenSpec.upto lruStepsSpec)

/-- 'hopperlaw08.LruLooks', WHERE WHAT IT READS IS OF BULK AT MOST 1048576: true; the input reads as it did. -/
def lruLooksUptoRow : OpenClaim := { program := "ytiokejhplbadeaa", sum := "6ee3c209b4e2ed7bd515bbfee61d0427db3c4ce01a5cdbcb7d061a79248f44db", func := "hopper/hopperlaw08.LruLooks", spec := "lruLooks", unfollowed := true, recurses := true, apart := false, narrowed := true }
def LruLooksUptoSaid : Prop := lruLooksUptoRow.holds Try.pinned (OpenSpec.upto lruLooksSpec)

/-- 'hopperlaw08.LruEvicts', WHERE WHAT IT READS IS OF BULK AT MOST 1048576: true; the input reads as it did. -/
def lruEvictsUptoRow : OpenClaim := { program := "ytiokejhplbadeaa", sum := "6ee3c209b4e2ed7bd515bbfee61d0427db3c4ce01a5cdbcb7d061a79248f44db", func := "hopper/hopperlaw08.LruEvicts", spec := "lruEvicts", unfollowed := true, recurses := true, apart := false, narrowed := true }
def LruEvictsUptoSaid : Prop := lruEvictsUptoRow.holds Try.pinned (OpenSpec.upto lruEvictsSpec)

/-- 'hopperlaw08.LruStack', WHERE WHAT IT READS IS OF BULK AT MOST 1048576: true; the input reads as it did. -/
def lruStackUptoRow : OpenClaim := { program := "ytiokejhplbadeaa", sum := "6ee3c209b4e2ed7bd515bbfee61d0427db3c4ce01a5cdbcb7d061a79248f44db", func := "hopper/hopperlaw08.LruStack", spec := "lruStack", unfollowed := true, recurses := true, apart := false, narrowed := true }
def LruStackUptoSaid : Prop := lruStackUptoRow.holds Try.pinned (OpenSpec.upto lruStackSpec)

/-- 'hopperlaw08.LruBounds', WHERE WHAT IT READS IS OF BULK AT MOST 1048576: true; the input reads as it did. -/
def lruBoundsUptoRow : OpenClaim := { program := "ytiokejhplbadeaa", sum := "6ee3c209b4e2ed7bd515bbfee61d0427db3c4ce01a5cdbcb7d061a79248f44db", func := "hopper/hopperlaw08.LruBounds", spec := "lruBounds", unfollowed := true, recurses := true, apart := false, narrowed := true }
def LruBoundsUptoSaid : Prop := lruBoundsUptoRow.holds Try.pinned (OpenSpec.upto lruBoundsSpec)

/-- 'hopperlaw09.TwoqSteps', WHERE WHAT IT READS IS OF BULK AT MOST 1048576: true; the input reads as it did. -/
def twoqStepsUptoRow : OpenClaim := { program := "ytiokejhplbadeaa", sum := "6ee3c209b4e2ed7bd515bbfee61d0427db3c4ce01a5cdbcb7d061a79248f44db", func := "hopper/hopperlaw09.TwoqSteps", spec := "twoqSteps", unfollowed := true, recurses := true, apart := false, narrowed := true }
def TwoqStepsUptoSaid : Prop := twoqStepsUptoRow.holds Try.pinned (OpenSpec.upto twoqStepsSpec)

/-- 'hopperlaw09.TwoqLooks', WHERE WHAT IT READS IS OF BULK AT MOST 1048576: true; the input reads as it did. -/
def twoqLooksUptoRow : OpenClaim := { program := "ytiokejhplbadeaa", sum := "6ee3c209b4e2ed7bd515bbfee61d0427db3c4ce01a5cdbcb7d061a79248f44db", func := "hopper/hopperlaw09.TwoqLooks", spec := "twoqLooks", unfollowed := true, recurses := true, apart := false, narrowed := true }
def TwoqLooksUptoSaid : Prop := twoqLooksUptoRow.holds Try.pinned (OpenSpec.upto twoqLooksSpec)

/-- 'hopperlaw09.TwoqEvicts', WHERE WHAT IT READS IS OF BULK AT MOST 1048576: true; the input reads as it did. -/
def twoqEvictsUptoRow : OpenClaim := { program := "ytiokejhplbadeaa", sum := "6ee3c209b4e2ed7bd515bbfee61d0427db3c4ce01a5cdbcb7d061a79248f44db", func := "hopper/hopperlaw09.TwoqEvicts", spec := "twoqEvicts", unfollowed := true, recurses := true, apart := false, narrowed := true }
def TwoqEvictsUptoSaid : Prop := twoqEvictsUptoRow.holds Try.pinned (OpenSpec.upto twoqEvictsSpec)

/-- 'hopperlaw09.TwoqBounds', WHERE WHAT IT READS IS OF BULK AT MOST 1048576: true; the input reads as it did. -/
def twoqBoundsUptoRow : OpenClaim := { program := "ytiokejhplbadeaa", sum := "6ee3c209b4e2ed7bd515bbfee61d0427db3c4ce01a5cdbcb7d061a79248f44db", func := "hopper/hopperlaw09.TwoqBounds", spec := "twoqBounds", unfollowed := true, recurses := true, apart := false, narrowed := true }
def TwoqBoundsUptoSaid : Prop := twoqBoundsUptoRow.holds Try.pinned (OpenSpec.upto twoqBoundsSpec)

/-- 'hopperlaw09.TwoqAgain', WHERE WHAT IT READS IS OF BULK AT MOST 1048576: true; the input reads as it did. -/
def twoqAgainUptoRow : OpenClaim := { program := "ytiokejhplbadeaa", sum := "6ee3c209b4e2ed7bd515bbfee61d0427db3c4ce01a5cdbcb7d061a79248f44db", func := "hopper/hopperlaw09.TwoqAgain", spec := "twoqAgain", unfollowed := true, recurses := true, apart := false, narrowed := true }
def TwoqAgainUptoSaid : Prop := twoqAgainUptoRow.holds Try.pinned (OpenSpec.upto twoqAgainSpec)

end Rows
end Go.Proofs.Ytiokejhplbadeaa
