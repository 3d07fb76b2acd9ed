/-
  No cell of these rows narrows 'for every input' (looked for: loops, veiled, ifaces, maps, wideKeys, modest, calm, conditions, laid).
  DERIVED. THE GIVEN ROWS OF THIS SEAT. 5 by the template 'for every input the law returns true; each argument reads behind the call as it read before'; 0 by the template 'total and deterministic' (their statements: YtjjapnepmimbaaaTotals.lean).
  GIVEN WITH THE SEED: the statements are not yours to turn. If you find one false, say at which input.
  Laid BY PROGRAM, IN A SANDBOX (cutbox-rows.mjs): the forced cells as the released guide's own fill.sh prints them over the translation 06f5304afba40c99… (all of the seat's roots in one cut). By AI agents, Wed Nov 11 2026. No macro, syntax, notation, axiom, sorry.
-/
import Derived.Test.YtjjapnepmimbaaaChecked
import GoSem.Claim
import GoSem.ClaimJoined
import GoSem.ClaimMapViews
import Derived.JoinedTies
import Derived.KernelRfl
namespace Go.Proofs.Ytjjapnepmimbaaa
/- THE CELL 'sum', in the pinned program and in every row, IS THE sha256 OF THE DUMP (.gsa) THAT YtjjapnepmimbaaaProg.lean LOADS. Nothing in Lean hashes anything: it is a label: what it is worth is what the hold of that sum in a sandbox is worth. -/
noncomputable def Try.pinned : Pinned := { name := "ytjjapnepmimbaaa", sum := "06f5304afba40c9915965eea17628f20de572b2cb273b3f9be459b7ba91daaf7", checked := Try.checked }
namespace Rows
def none {H : Type} : Left H := { results := [], args := [] }

/-- 'hopperlaw08.LruSteps': WHATEVER THE INPUT: true; the input reads as it did. -/
def lruStepsSpec : ChangeSpec := { name := "lruSteps", fn := fun _ => fun
  | [d1, d2] => { results := [.lit (.bool true)], args := [d1, d2] }
  | _ => none }
def lruStepsRow : OpenClaim := { program := "ytjjapnepmimbaaa", sum := "06f5304afba40c9915965eea17628f20de572b2cb273b3f9be459b7ba91daaf7", func := "hopper/hopperlaw08.LruSteps", spec := "lruSteps", unfollowed := true, recurses := true, apart := false }
def LruStepsSaid : Prop := lruStepsRow.holds Try.pinned (OpenSpec.ofChange lruStepsSpec)

/-- ITS FALSE NEIGHBOUR: 'it returns false'. Refute it at one input. -/
def lruStepsWrong : ChangeSpec := { name := "lruSteps", fn := fun _ => fun
  | [d1, d2] => { results := [.lit (.bool false)], args := [d1, d2] }
  | _ => none }
def LruStepsWrongFalsely : Prop := lruStepsRow.holds Try.pinned (OpenSpec.ofChange lruStepsWrong)

/-- 'hopperlaw08.LruLooks': WHATEVER THE INPUT: true; the input reads as it did. -/
def lruLooksSpec : ChangeSpec := { name := "lruLooks", fn := fun _ => fun
  | [d1, d2, d3] => { results := [.lit (.bool true)], args := [d1, d2, d3] }
  | _ => none }
def lruLooksRow : OpenClaim := { program := "ytjjapnepmimbaaa", sum := "06f5304afba40c9915965eea17628f20de572b2cb273b3f9be459b7ba91daaf7", func := "hopper/hopperlaw08.LruLooks", spec := "lruLooks", unfollowed := true, recurses := true, apart := false }
def LruLooksSaid : Prop := lruLooksRow.holds Try.pinned (OpenSpec.ofChange lruLooksSpec)

/-- ITS FALSE NEIGHBOUR: 'it returns false'. Refute it at one input. -/
def lruLooksWrong : ChangeSpec := { name := "lruLooks", fn := fun _ => fun
  | [d1, d2, d3] => { results := [.lit (.bool false)], args := [d1, d2, d3] }
  | _ => none }
def LruLooksWrongFalsely : Prop := lruLooksRow.holds Try.pinned (OpenSpec.ofChange lruLooksWrong)

/-- 'hopperlaw08.LruEvicts': WHATEVER THE INPUT: true; the input reads as it did. -/
def lruEvictsSpec : ChangeSpec := { name := "lruEvicts", fn := fun _ => fun
  | [d1, d2, d3] => { results := [.lit (.bool true)], args := [d1, d2, d3] }
  | _ => none }
def lruEvictsRow : OpenClaim := { program := "ytjjapnepmimbaaa", sum := "06f5304afba40c9915965eea17628f20de572b2cb273b3f9be459b7ba91daaf7", func := "hopper/hopperlaw08.LruEvicts", spec := "lruEvicts", unfollowed := true, recurses := true, apart := false }
def LruEvictsSaid : Prop := lruEvictsRow.holds Try.pinned (OpenSpec.ofChange lruEvictsSpec)

/-- ITS FALSE NEIGHBOUR: 'it returns false'. Refute it at one input. -/
def lruEvictsWrong : ChangeSpec := { name := "lruEvicts", fn := fun _ => fun
  | [d1, d2, d3] => { results := [.lit (.bool false)], args := [d1, d2, d3] }
  | _ => none }
def LruEvictsWrongFalsely : Prop := lruEvictsRow.holds Try.pinned (OpenSpec.ofChange lruEvictsWrong)

/-- 'hopperlaw08.LruStack': WHATEVER THE INPUT: true; the input reads as it did. -/
def lruStackSpec : ChangeSpec := { name := "lruStack", fn := fun _ => fun
  | [d1, d2] => { results := [.lit (.bool true)], args := [d1, d2] }
  | _ => none }
def lruStackRow : OpenClaim := { program := "ytjjapnepmimbaaa", sum := "06f5304afba40c9915965eea17628f20de572b2cb273b3f9be459b7ba91daaf7", func := "hopper/hopperlaw08.LruStack", spec := "lruStack", unfollowed := true, recurses := true, apart := false }
def LruStackSaid : Prop := lruStackRow.holds Try.pinned (OpenSpec.ofChange lruStackSpec)

/-- ITS FALSE NEIGHBOUR: 'it returns false'. Refute it at one input. -/
def lruStackWrong : ChangeSpec := { name := "lruStack", fn := fun _ => fun
  | [d1, d2] => { results := [.lit (.bool false)], args := [d1, d2] }
  | _ => none }
def LruStackWrongFalsely : Prop := lruStackRow.holds Try.pinned (OpenSpec.ofChange lruStackWrong)

/-- 'hopperlaw08.LruBounds': WHATEVER THE INPUT: true; the input reads as it did. -/
def lruBoundsSpec : ChangeSpec := { name := "lruBounds", fn := fun _ => fun
  | [d1, d2, d3] => { results := [.lit (.bool true)], args := [d1, d2, d3] }
  | _ => none }
def lruBoundsRow : OpenClaim := { program := "ytjjapnepmimbaaa", sum := "06f5304afba40c9915965eea17628f20de572b2cb273b3f9be459b7ba91daaf7", func := "hopper/hopperlaw08.LruBounds", spec := "lruBounds", unfollowed := true, recurses := true, apart := false }
def LruBoundsSaid : Prop := lruBoundsRow.holds Try.pinned (OpenSpec.ofChange lruBoundsSpec)

/-- ITS FALSE NEIGHBOUR: 'it returns false'. Refute it at one input. -/
def lruBoundsWrong : ChangeSpec := { name := "lruBounds", fn := fun _ => fun
  | [d1, d2, d3] => { results := [.lit (.bool false)], args := [d1, d2, d3] }
  | _ => none }
def LruBoundsWrongFalsely : Prop := lruBoundsRow.holds Try.pinned (OpenSpec.ofChange lruBoundsWrong)

/- THE SECOND FORM. 'bulk': how many values and letters a reading holds, each counted each time it is reached (what is shared counts as often as it is met; a slice's spare places count too). A statement '..UptoSaid' is the law's where the arguments, and the package variables that the reading takes, are together of bulk at most 1048576: NARROWER than '..Said'. Prove '..Said' where nothing that the law and all that it calls make is longer than what came in: it says more and counts as full. Else prove '..UptoSaid'. A law counts once. -/
mutual
def uptoBulk {H : Type} : DataW H → Nat
  | .lit (.string bytes) => bytes.length + 1
  | .lit _ => 1
  | .nil => 1
  | .ptr d => uptoBulk d + 1
  | .slice elems spare => uptoBulkAll elems + uptoBulkAll spare + 1
  | .agg parts => uptoBulkAll parts + 1
  | .iface _ d => uptoBulk d + 1
  | .map entries => uptoBulkEntries entries + 1
  | .held _ => 1
def uptoBulkAll {H : Type} : List (DataW H) → Nat
  | [] => 0
  | d :: r => uptoBulk d + uptoBulkAll r
def uptoBulkEntries {H : Type} : List (Lit × DataW H) → Nat
  | [] => 0
  | x :: r => uptoBulkEntry x + uptoBulkEntries r
def uptoBulkEntry {H : Type} : Lit × DataW H → Nat
  | (.string bytes, d) => bytes.length + uptoBulk d + 1
  | (_, d) => uptoBulk d + 1
 end
def uptoSmall : (H : Type) → List (DataW H) → Bool := fun _ ds => decide (uptoBulkAll ds ≤ 1048576)
def OpenSpec.upto (s : _root_.Go.ChangeSpec) : _root_.Go.OpenSpec := { _root_.Go.OpenSpec.ofChange s with cond := some uptoSmall }

/-- 'hopperlaw08.LruSteps', WHERE WHAT IT READS IS OF BULK AT MOST 1048576: true; the input reads as it did. -/
def lruStepsUptoRow : OpenClaim := { program := "ytjjapnepmimbaaa", sum := "06f5304afba40c9915965eea17628f20de572b2cb273b3f9be459b7ba91daaf7", func := "hopper/hopperlaw08.LruSteps", spec := "lruSteps", unfollowed := true, recurses := true, apart := false, narrowed := true }
def LruStepsUptoSaid : Prop := lruStepsUptoRow.holds Try.pinned (OpenSpec.upto lruStepsSpec)

/-- 'hopperlaw08.LruLooks', WHERE WHAT IT READS IS OF BULK AT MOST 1048576: true; the input reads as it did. -/
def lruLooksUptoRow : OpenClaim := { program := "ytjjapnepmimbaaa", sum := "06f5304afba40c9915965eea17628f20de572b2cb273b3f9be459b7ba91daaf7", func := "hopper/hopperlaw08.LruLooks", spec := "lruLooks", unfollowed := true, recurses := true, apart := false, narrowed := true }
def LruLooksUptoSaid : Prop := lruLooksUptoRow.holds Try.pinned (OpenSpec.upto lruLooksSpec)

/-- 'hopperlaw08.LruEvicts', WHERE WHAT IT READS IS OF BULK AT MOST 1048576: true; the input reads as it did. -/
def lruEvictsUptoRow : OpenClaim := { program := "ytjjapnepmimbaaa", sum := "06f5304afba40c9915965eea17628f20de572b2cb273b3f9be459b7ba91daaf7", func := "hopper/hopperlaw08.LruEvicts", spec := "lruEvicts", unfollowed := true, recurses := true, apart := false, narrowed := true }
def LruEvictsUptoSaid : Prop := lruEvictsUptoRow.holds Try.pinned (OpenSpec.upto lruEvictsSpec)

/-- 'hopperlaw08.LruStack', WHERE WHAT IT READS IS OF BULK AT MOST 1048576: true; the input reads as it did. -/
def lruStackUptoRow : OpenClaim := { program := "ytjjapnepmimbaaa", sum := "06f5304afba40c9915965eea17628f20de572b2cb273b3f9be459b7ba91daaf7", func := "hopper/hopperlaw08.LruStack", spec := "lruStack", unfollowed := true, recurses := true, apart := false, narrowed := true }
def LruStackUptoSaid : Prop := lruStackUptoRow.holds Try.pinned (OpenSpec.upto lruStackSpec)

/-- 'hopperlaw08.LruBounds', WHERE WHAT IT READS IS OF BULK AT MOST 1048576: true; the input reads as it did. -/
def lruBoundsUptoRow : OpenClaim := { program := "ytjjapnepmimbaaa", sum := "06f5304afba40c9915965eea17628f20de572b2cb273b3f9be459b7ba91daaf7", func := "hopper/hopperlaw08.LruBounds", spec := "lruBounds", unfollowed := true, recurses := true, apart := false, narrowed := true }
def LruBoundsUptoSaid : Prop := lruBoundsUptoRow.holds Try.pinned (OpenSpec.upto lruBoundsSpec)

end Rows
end Go.Proofs.Ytjjapnepmimbaaa
