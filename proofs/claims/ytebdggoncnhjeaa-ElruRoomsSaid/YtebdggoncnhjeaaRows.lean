/-
  No cell of these rows narrows 'for every input' (looked for: loops, veiled, ifaces, maps, wideKeys, modest, calm, conditions, laid).
  DERIVED. THE GIVEN ROWS OF THIS SEAT. 5 by the template 'for every input the law returns true; each argument reads behind the call as it read before'; 0 by the template 'total and deterministic' (their statements: YtebdggoncnhjeaaTotals.lean).
  GIVEN WITH THE SEED: the statements are not yours to turn. If you find one false, say at which input.
  Laid BY PROGRAM, IN A SANDBOX (cutbox-rows.mjs): the forced cells as the released guide's own fill.sh prints them over the translation 84f3b1285c3c526b… (all of the seat's roots in one cut). By AI agents, Wed Nov 11 2026. No macro, syntax, notation, axiom, sorry.
-/
import Derived.Test.YtebdggoncnhjeaaChecked
import GoSem.Claim
import GoSem.ClaimJoined
import GoSem.ClaimMapViews
import Derived.JoinedTies
import Derived.KernelRfl
namespace Go.Proofs.Ytebdggoncnhjeaa
/- THE CELL 'sum', in the pinned program and in every row, IS THE sha256 OF THE DUMP (.gsa) THAT YtebdggoncnhjeaaProg.lean LOADS. Nothing in Lean hashes anything: it is a label: what it is worth is what the hold of that sum in a sandbox is worth. -/
noncomputable def Try.pinned : Pinned := { name := "ytebdggoncnhjeaa", sum := "84f3b1285c3c526bafe431a74fd58f1ebdd3f1c4b611bfca4a27a03237511ad9", checked := Try.checked }
namespace Rows
def none {H : Type} : Left H := { results := [], args := [] }

/-- 'hopperlaw14.ElruSteps': WHATEVER THE INPUT: true; the input reads as it did. -/
def elruStepsSpec : ChangeSpec := { name := "elruSteps", fn := fun _ => fun
  | [d1, d2] => { results := [.lit (.bool true)], args := [d1, d2] }
  | _ => none }
def elruStepsRow : OpenClaim := { program := "ytebdggoncnhjeaa", sum := "84f3b1285c3c526bafe431a74fd58f1ebdd3f1c4b611bfca4a27a03237511ad9", func := "hopper/hopperlaw14.ElruSteps", spec := "elruSteps", unfollowed := true, recurses := true, apart := false }
def ElruStepsSaid : Prop := elruStepsRow.holds Try.pinned (OpenSpec.ofChange elruStepsSpec)

/-- ITS FALSE NEIGHBOUR: 'it returns false'. Refute it at one input. -/
def elruStepsWrong : ChangeSpec := { name := "elruSteps", fn := fun _ => fun
  | [d1, d2] => { results := [.lit (.bool false)], args := [d1, d2] }
  | _ => none }
def ElruStepsWrongFalsely : Prop := elruStepsRow.holds Try.pinned (OpenSpec.ofChange elruStepsWrong)

/-- 'hopperlaw14.ElruLooks': WHATEVER THE INPUT: true; the input reads as it did. -/
def elruLooksSpec : ChangeSpec := { name := "elruLooks", fn := fun _ => fun
  | [d1, d2, d3] => { results := [.lit (.bool true)], args := [d1, d2, d3] }
  | _ => none }
def elruLooksRow : OpenClaim := { program := "ytebdggoncnhjeaa", sum := "84f3b1285c3c526bafe431a74fd58f1ebdd3f1c4b611bfca4a27a03237511ad9", func := "hopper/hopperlaw14.ElruLooks", spec := "elruLooks", unfollowed := true, recurses := true, apart := false }
def ElruLooksSaid : Prop := elruLooksRow.holds Try.pinned (OpenSpec.ofChange elruLooksSpec)

/-- ITS FALSE NEIGHBOUR: 'it returns false'. Refute it at one input. -/
def elruLooksWrong : ChangeSpec := { name := "elruLooks", fn := fun _ => fun
  | [d1, d2, d3] => { results := [.lit (.bool false)], args := [d1, d2, d3] }
  | _ => none }
def ElruLooksWrongFalsely : Prop := elruLooksRow.holds Try.pinned (OpenSpec.ofChange elruLooksWrong)

/-- 'hopperlaw14.ElruLists': WHATEVER THE INPUT: true; the input reads as it did. -/
def elruListsSpec : ChangeSpec := { name := "elruLists", fn := fun _ => fun
  | [d1, d2] => { results := [.lit (.bool true)], args := [d1, d2] }
  | _ => none }
def elruListsRow : OpenClaim := { program := "ytebdggoncnhjeaa", sum := "84f3b1285c3c526bafe431a74fd58f1ebdd3f1c4b611bfca4a27a03237511ad9", func := "hopper/hopperlaw14.ElruLists", spec := "elruLists", unfollowed := true, recurses := true, apart := false }
def ElruListsSaid : Prop := elruListsRow.holds Try.pinned (OpenSpec.ofChange elruListsSpec)

/-- ITS FALSE NEIGHBOUR: 'it returns false'. Refute it at one input. -/
def elruListsWrong : ChangeSpec := { name := "elruLists", fn := fun _ => fun
  | [d1, d2] => { results := [.lit (.bool false)], args := [d1, d2] }
  | _ => none }
def ElruListsWrongFalsely : Prop := elruListsRow.holds Try.pinned (OpenSpec.ofChange elruListsWrong)

/-- 'hopperlaw14.ElruRooms': WHATEVER THE INPUT: true; the input reads as it did. -/
def elruRoomsSpec : ChangeSpec := { name := "elruRooms", fn := fun _ => fun
  | [d1, d2] => { results := [.lit (.bool true)], args := [d1, d2] }
  | _ => none }
def elruRoomsRow : OpenClaim := { program := "ytebdggoncnhjeaa", sum := "84f3b1285c3c526bafe431a74fd58f1ebdd3f1c4b611bfca4a27a03237511ad9", func := "hopper/hopperlaw14.ElruRooms", spec := "elruRooms", unfollowed := true, recurses := true, apart := false }
def ElruRoomsSaid : Prop := elruRoomsRow.holds Try.pinned (OpenSpec.ofChange elruRoomsSpec)

/-- ITS FALSE NEIGHBOUR: 'it returns false'. Refute it at one input. -/
def elruRoomsWrong : ChangeSpec := { name := "elruRooms", fn := fun _ => fun
  | [d1, d2] => { results := [.lit (.bool false)], args := [d1, d2] }
  | _ => none }
def ElruRoomsWrongFalsely : Prop := elruRoomsRow.holds Try.pinned (OpenSpec.ofChange elruRoomsWrong)

/-- 'hopperlaw14.ElruNobody': WHATEVER THE INPUT: true; the input reads as it did. -/
def elruNobodySpec : ChangeSpec := { name := "elruNobody", fn := fun _ => fun
  | [d1, d2] => { results := [.lit (.bool true)], args := [d1, d2] }
  | _ => none }
def elruNobodyRow : OpenClaim := { program := "ytebdggoncnhjeaa", sum := "84f3b1285c3c526bafe431a74fd58f1ebdd3f1c4b611bfca4a27a03237511ad9", func := "hopper/hopperlaw14.ElruNobody", spec := "elruNobody", unfollowed := true, recurses := true, apart := false }
def ElruNobodySaid : Prop := elruNobodyRow.holds Try.pinned (OpenSpec.ofChange elruNobodySpec)

/-- ITS FALSE NEIGHBOUR: 'it returns false'. Refute it at one input. -/
def elruNobodyWrong : ChangeSpec := { name := "elruNobody", fn := fun _ => fun
  | [d1, d2] => { results := [.lit (.bool false)], args := [d1, d2] }
  | _ => none }
def ElruNobodyWrongFalsely : Prop := elruNobodyRow.holds Try.pinned (OpenSpec.ofChange elruNobodyWrong)

/- THE SECOND FORM. 'bulk': how many values and letters a reading holds, each counted each time it is reached (what is shared counts as often as it is met; a slice's spare places count too). A statement '..UptoSaid' is the law's where the arguments, and the package variables that the reading takes, are together of bulk at most 1048576: NARROWER than '..Said'. Prove '..Said' where nothing that the law and all that it calls make is longer than what came in: it says more and counts as full. Else prove '..UptoSaid'. A law counts once. -/
mutual
def uptoBulk {H : Type} : DataW H → Nat
  | .lit (.string bytes) => bytes.length + 1
  | .lit _ => 1
  | .nil => 1
  | .ptr d => uptoBulk d + 1
  | .slice elems spare => uptoBulkAll elems + uptoBulkAll spare + 1
  | .agg parts => uptoBulkAll parts + 1
  | .iface _ d => uptoBulk d + 1
  | .map entries => uptoBulkEntries entries + 1
  | .held _ => 1
def uptoBulkAll {H : Type} : List (DataW H) → Nat
  | [] => 0
  | d :: r => uptoBulk d + uptoBulkAll r
def uptoBulkEntries {H : Type} : List (Lit × DataW H) → Nat
  | [] => 0
  | x :: r => uptoBulkEntry x + uptoBulkEntries r
def uptoBulkEntry {H : Type} : Lit × DataW H → Nat
  | (.string bytes, d) => bytes.length + uptoBulk d + 1
  | (_, d) => uptoBulk d + 1
 end
def uptoSmall : (H : Type) → List (DataW H) → Bool := fun _ ds => decide (uptoBulkAll ds ≤ 1048576)
def OpenSpec.upto (s : _root_.Go.ChangeSpec) : _root_.Go.OpenSpec := { _root_.Go.OpenSpec.ofChange s with cond := some uptoSmall }

/-- 'hopperlaw14.ElruSteps', WHERE WHAT IT READS IS OF BULK AT MOST 1048576: true; the input reads as it did. -/
def elruStepsUptoRow : OpenClaim := { program := "ytebdggoncnhjeaa", sum := "84f3b1285c3c526bafe431a74fd58f1ebdd3f1c4b611bfca4a27a03237511ad9", func := "hopper/hopperlaw14.ElruSteps", spec := "elruSteps", unfollowed := true, recurses := true, apart := false, narrowed := true }
def ElruStepsUptoSaid : Prop := elruStepsUptoRow.holds Try.pinned (OpenSpec.upto elruStepsSpec)

/-- 'hopperlaw14.ElruLooks', WHERE WHAT IT READS IS OF BULK AT MOST 1048576: true; the input reads as it did. -/
def elruLooksUptoRow : OpenClaim := { program := "ytebdggoncnhjeaa", sum := "84f3b1285c3c526bafe431a74fd58f1ebdd3f1c4b611bfca4a27a03237511ad9", func := "hopper/hopperlaw14.ElruLooks", spec := "elruLooks", unfollowed := true, recurses := true, apart := false, narrowed := true }
def ElruLooksUptoSaid : Prop := elruLooksUptoRow.holds Try.pinned (OpenSpec.upto elruLooksSpec)

/-- 'hopperlaw14.ElruLists', WHERE WHAT IT READS IS OF BULK AT MOST 1048576: true; the input reads as it did. -/
def elruListsUptoRow : OpenClaim := { program := "ytebdggoncnhjeaa", sum := "84f3b1285c3c526bafe431a74fd58f1ebdd3f1c4b611bfca4a27a03237511ad9", func := "hopper/hopperlaw14.ElruLists", spec := "elruLists", unfollowed := true, recurses := true, apart := false, narrowed := true }
def ElruListsUptoSaid : Prop := elruListsUptoRow.holds Try.pinned (OpenSpec.upto elruListsSpec)

/-- 'hopperlaw14.ElruRooms', WHERE WHAT IT READS IS OF BULK AT MOST 1048576: true; the input reads as it did. -/
def elruRoomsUptoRow : OpenClaim := { program := "ytebdggoncnhjeaa", sum := "84f3b1285c3c526bafe431a74fd58f1ebdd3f1c4b611bfca4a27a03237511ad9", func := "hopper/hopperlaw14.ElruRooms", spec := "elruRooms", unfollowed := true, recurses := true, apart := false, narrowed := true }
def ElruRoomsUptoSaid : Prop := elruRoomsUptoRow.holds Try.pinned (OpenSpec.upto elruRoomsSpec)

/-- 'hopperlaw14.ElruNobody', WHERE WHAT IT READS IS OF BULK AT MOST 1048576: true; the input reads as it did. -/
def elruNobodyUptoRow : OpenClaim := { program := "ytebdggoncnhjeaa", sum := "84f3b1285c3c526bafe431a74fd58f1ebdd3f1c4b611bfca4a27a03237511ad9", func := "hopper/hopperlaw14.ElruNobody", spec := "elruNobody", unfollowed := true, recurses := true, apart := false, narrowed := true }
def ElruNobodyUptoSaid : Prop := elruNobodyUptoRow.holds Try.pinned (OpenSpec.upto elruNobodySpec)

end Rows
end Go.Proofs.Ytebdggoncnhjeaa
