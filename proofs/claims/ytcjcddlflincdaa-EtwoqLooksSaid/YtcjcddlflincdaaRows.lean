/-
  No cell of these rows narrows 'for every input' (looked for: loops, veiled, ifaces, maps, wideKeys, modest, calm, conditions, laid).
  DERIVED. THE GIVEN ROWS OF THIS SEAT. 4 by the template 'for every input the law returns true; each argument reads behind the call as it read before'; 0 by the template 'total and deterministic' (their statements: YtcjcddlflincdaaTotals.lean).
  GIVEN WITH THE SEED: the statements are not yours to turn. If you find one false, say at which input.
  Laid BY PROGRAM, IN A SANDBOX (cutbox-rows.mjs): the forced cells as the released guide's own fill.sh prints them over the translation c569a4c98fedd304… (all of the seat's roots in one cut). By AI agents, Wed Nov 11 2026. No macro, syntax, notation, axiom, sorry.
-/
import Derived.Test.YtcjcddlflincdaaChecked
import GoSem.Claim
import GoSem.ClaimJoined
import GoSem.ClaimMapViews
import Derived.JoinedTies
import Derived.KernelRfl
namespace Go.Proofs.Ytcjcddlflincdaa
/- THE CELL 'sum', in the pinned program and in every row, IS THE sha256 OF THE DUMP (.gsa) THAT YtcjcddlflincdaaProg.lean LOADS. Nothing in Lean hashes anything: it is a label: what it is worth is what the hold of that sum in a sandbox is worth. -/
noncomputable def Try.pinned : Pinned := { name := "ytcjcddlflincdaa", sum := "c569a4c98fedd304020163cb13ac3e001a593a9145bd79e28a8195634c61b7e5", checked := Try.checked }
namespace Rows
def none {H : Type} : Left H := { results := [], args := [] }

/-- 'hopperlaw15.EtwoqSteps': WHATEVER THE INPUT: true; the input reads as it did. -/
def etwoqStepsSpec : ChangeSpec := { name := "etwoqSteps", fn := fun _ => fun
  | [d1, d2] => { results := [.lit (.bool true)], args := [d1, d2] }
  | _ => none }
def etwoqStepsRow : OpenClaim := { program := "ytcjcddlflincdaa", sum := "c569a4c98fedd304020163cb13ac3e001a593a9145bd79e28a8195634c61b7e5", func := "hopper/hopperlaw15.EtwoqSteps", spec := "etwoqSteps", unfollowed := true, recurses := true, apart := false }
def EtwoqStepsSaid : Prop := etwoqStepsRow.holds Try.pinned (OpenSpec.ofChange etwoqStepsSpec)

/-- ITS FALSE NEIGHBOUR: 'it returns false'. Refute it at one input. -/
def etwoqStepsWrong : ChangeSpec := { name := "etwoqSteps", fn := fun _ => fun
  | [d1, d2] => { results := [.lit (.bool false)], args := [d1, d2] }
  | _ => none }
def EtwoqStepsWrongFalsely : Prop := etwoqStepsRow.holds Try.pinned (OpenSpec.ofChange etwoqStepsWrong)

/-- 'hopperlaw15.EtwoqLooks': WHATEVER THE INPUT: true; the input reads as it did. -/
def etwoqLooksSpec : ChangeSpec := { name := "etwoqLooks", fn := fun _ => fun
  | [d1, d2, d3] => { results := [.lit (.bool true)], args := [d1, d2, d3] }
  | _ => none }
def etwoqLooksRow : OpenClaim := { program := "ytcjcddlflincdaa", sum := "c569a4c98fedd304020163cb13ac3e001a593a9145bd79e28a8195634c61b7e5", func := "hopper/hopperlaw15.EtwoqLooks", spec := "etwoqLooks", unfollowed := true, recurses := true, apart := false }
def EtwoqLooksSaid : Prop := etwoqLooksRow.holds Try.pinned (OpenSpec.ofChange etwoqLooksSpec)

/-- ITS FALSE NEIGHBOUR: 'it returns false'. Refute it at one input. -/
def etwoqLooksWrong : ChangeSpec := { name := "etwoqLooks", fn := fun _ => fun
  | [d1, d2, d3] => { results := [.lit (.bool false)], args := [d1, d2, d3] }
  | _ => none }
def EtwoqLooksWrongFalsely : Prop := etwoqLooksRow.holds Try.pinned (OpenSpec.ofChange etwoqLooksWrong)

/-- 'hopperlaw15.EtwoqRooms': WHATEVER THE INPUT: true; the input reads as it did. -/
def etwoqRoomsSpec : ChangeSpec := { name := "etwoqRooms", fn := fun _ => fun
  | [d1, d2] => { results := [.lit (.bool true)], args := [d1, d2] }
  | _ => none }
def etwoqRoomsRow : OpenClaim := { program := "ytcjcddlflincdaa", sum := "c569a4c98fedd304020163cb13ac3e001a593a9145bd79e28a8195634c61b7e5", func := "hopper/hopperlaw15.EtwoqRooms", spec := "etwoqRooms", unfollowed := true, recurses := true, apart := false }
def EtwoqRoomsSaid : Prop := etwoqRoomsRow.holds Try.pinned (OpenSpec.ofChange etwoqRoomsSpec)

/-- ITS FALSE NEIGHBOUR: 'it returns false'. Refute it at one input. -/
def etwoqRoomsWrong : ChangeSpec := { name := "etwoqRooms", fn := fun _ => fun
  | [d1, d2] => { results := [.lit (.bool false)], args := [d1, d2] }
  | _ => none }
def EtwoqRoomsWrongFalsely : Prop := etwoqRoomsRow.holds Try.pinned (OpenSpec.ofChange etwoqRoomsWrong)

/-- 'hopperlaw15.EtwoqNobody': WHATEVER THE INPUT: true; the input reads as it did. -/
def etwoqNobodySpec : ChangeSpec := { name := "etwoqNobody", fn := fun _ => fun
  | [d1, d2] => { results := [.lit (.bool true)], args := [d1, d2] }
  | _ => none }
def etwoqNobodyRow : OpenClaim := { program := "ytcjcddlflincdaa", sum := "c569a4c98fedd304020163cb13ac3e001a593a9145bd79e28a8195634c61b7e5", func := "hopper/hopperlaw15.EtwoqNobody", spec := "etwoqNobody", unfollowed := true, recurses := true, apart := false }
def EtwoqNobodySaid : Prop := etwoqNobodyRow.holds Try.pinned (OpenSpec.ofChange etwoqNobodySpec)

/-- ITS FALSE NEIGHBOUR: 'it returns false'. Refute it at one input. -/
def etwoqNobodyWrong : ChangeSpec := { name := "etwoqNobody", fn := fun _ => fun
  | [d1, d2] => { results := [.lit (.bool false)], args := [d1, d2] }
  | _ => none }
def EtwoqNobodyWrongFalsely : Prop := etwoqNobodyRow.holds Try.pinned (OpenSpec.ofChange etwoqNobodyWrong)

/- THE SECOND FORM. 'bulk': how many values and letters a reading holds, each counted each time it is reached (what is shared counts as often as it is met; a slice's spare places count too). A statement '..UptoSaid' is the law's where the arguments, and the package variables that the reading takes, are together of bulk at most 1048576: NARROWER than '..Said'. Prove '..Said' where nothing that the law and all that it calls make is longer than what came in: it says more and counts as full. Else prove '..UptoSaid'. A law counts once. -/
mutual
def uptoBulk {H : Type} : DataW H → Nat
  | .lit (.string bytes) => bytes.length + 1
  | .lit _ => 1
  | .nil => 1
  | .ptr d => uptoBulk d + 1
  | .slice elems spare => uptoBulkAll elems + uptoBulkAll spare + 1
  | .agg parts => uptoBulkAll parts + 1
  | .iface _ d => uptoBulk d + 1
  | .map entries => uptoBulkEntries entries + 1
  | .held _ => 1
def uptoBulkAll {H : Type} : List (DataW H) → Nat
  | [] => 0
  | d :: r => uptoBulk d + uptoBulkAll r
def uptoBulkEntries {H : Type} : List (Lit × DataW H) → Nat
  | [] => 0
  | x :: r => uptoBulkEntry x + uptoBulkEntries r
def uptoBulkEntry {H : Type} : Lit × DataW H → Nat
  | (.string bytes, d) => bytes.length + uptoBulk d + 1
  | (_, d) => uptoBulk d + 1
 end
def uptoSmall : (H : Type) → List (DataW H) → Bool := fun _ ds => decide (uptoBulkAll ds ≤ 1048576)
def OpenSpec.upto (s : _root_.Go.ChangeSpec) : _root_.Go.OpenSpec := { _root_.Go.OpenSpec.ofChange s with cond := some uptoSmall }

/-- 'hopperlaw15.EtwoqSteps', WHERE WHAT IT READS IS OF BULK AT MOST 1048576: true; the input reads as it did. -/
def etwoqStepsUptoRow : OpenClaim := { program := "ytcjcddlflincdaa", sum := "c569a4c98fedd304020163cb13ac3e001a593a9145bd79e28a8195634c61b7e5", func := "hopper/hopperlaw15.EtwoqSteps", spec := "etwoqSteps", unfollowed := true, recurses := true, apart := false, narrowed := true }
def EtwoqStepsUptoSaid : Prop := etwoqStepsUptoRow.holds Try.pinned (OpenSpec.upto etwoqStepsSpec)

/-- 'hopperlaw15.EtwoqLooks', WHERE WHAT IT READS IS OF BULK AT MOST 1048576: true; the input reads as it did. -/
def etwoqLooksUptoRow : OpenClaim := { program := "ytcjcddlflincdaa", sum := "c569a4c98fedd304020163cb13ac3e001a593a9145bd79e28a8195634c61b7e5", func := "hopper/hopperlaw15.EtwoqLooks", spec := "etwoqLooks", unfollowed := true, recurses := true, apart := false, narrowed := true }
def EtwoqLooksUptoSaid : Prop := etwoqLooksUptoRow.holds Try.pinned (OpenSpec.upto etwoqLooksSpec)

/-- 'hopperlaw15.EtwoqRooms', WHERE WHAT IT READS IS OF BULK AT MOST 1048576: true; the input reads as it did. -/
def etwoqRoomsUptoRow : OpenClaim := { program := "ytcjcddlflincdaa", sum := "c569a4c98fedd304020163cb13ac3e001a593a9145bd79e28a8195634c61b7e5", func := "hopper/hopperlaw15.EtwoqRooms", spec := "etwoqRooms", unfollowed := true, recurses := true, apart := false, narrowed := true }
def EtwoqRoomsUptoSaid : Prop := etwoqRoomsUptoRow.holds Try.pinned (OpenSpec.upto etwoqRoomsSpec)

/-- 'hopperlaw15.EtwoqNobody', WHERE WHAT IT READS IS OF BULK AT MOST 1048576: true; the input reads as it did. -/
def etwoqNobodyUptoRow : OpenClaim := { program := "ytcjcddlflincdaa", sum := "c569a4c98fedd304020163cb13ac3e001a593a9145bd79e28a8195634c61b7e5", func := "hopper/hopperlaw15.EtwoqNobody", spec := "etwoqNobody", unfollowed := true, recurses := true, apart := false, narrowed := true }
def EtwoqNobodyUptoSaid : Prop := etwoqNobodyUptoRow.holds Try.pinned (OpenSpec.upto etwoqNobodySpec)

end Rows
end Go.Proofs.Ytcjcddlflincdaa
