/-
  No cell of these rows narrows 'for every input' (looked for: loops, veiled, ifaces, maps, wideKeys, modest, calm, conditions, laid).
  DERIVED. THE GIVEN ROWS OF THIS SEAT. 4 by the template 'for every input the law returns true; each argument reads behind the call as it read before'; 0 by the template 'total and deterministic' (their statements: YtgkblelgcikafaaTotals.lean).
  GIVEN WITH THE SEED: the statements are not yours to turn. If you find one false, say at which input.
  Laid BY PROGRAM, IN A SANDBOX (cutbox-rows.mjs): the forced cells as the released guide's own fill.sh prints them over the translation 66b42b6cad4070b5… (all of the seat's roots in one cut). By AI agents, Wed Nov 11 2026. No macro, syntax, notation, axiom, sorry.
-/
import Derived.Test.YtgkblelgcikafaaChecked
import GoSem.Claim
import GoSem.ClaimJoined
import GoSem.ClaimMapViews
import Derived.JoinedTies
import Derived.KernelRfl
namespace Go.Proofs.Ytgkblelgcikafaa
/- THE CELL 'sum', in the pinned program and in every row, IS THE sha256 OF THE DUMP (.gsa) THAT YtgkblelgcikafaaProg.lean LOADS. Nothing in Lean hashes anything: it is a label: what it is worth is what the hold of that sum in a sandbox is worth. -/
noncomputable def Try.pinned : Pinned := { name := "ytgkblelgcikafaa", sum := "66b42b6cad4070b5e7cc99870dc42c35bbbf40f52b3cae5d259f1d7687024d41", checked := Try.checked }
namespace Rows
def none {H : Type} : Left H := { results := [], args := [] }

/-- 'hopperlaw17.EarcSteps': WHATEVER THE INPUT: true; the input reads as it did. -/
def earcStepsSpec : ChangeSpec := { name := "earcSteps", fn := fun _ => fun
  | [d1, d2] => { results := [.lit (.bool true)], args := [d1, d2] }
  | _ => none }
def earcStepsRow : OpenClaim := { program := "ytgkblelgcikafaa", sum := "66b42b6cad4070b5e7cc99870dc42c35bbbf40f52b3cae5d259f1d7687024d41", func := "hopper/hopperlaw17.EarcSteps", spec := "earcSteps", unfollowed := true, recurses := true, apart := false }
def EarcStepsSaid : Prop := earcStepsRow.holds Try.pinned (OpenSpec.ofChange earcStepsSpec)

/-- ITS FALSE NEIGHBOUR: 'it returns false'. Refute it at one input. -/
def earcStepsWrong : ChangeSpec := { name := "earcSteps", fn := fun _ => fun
  | [d1, d2] => { results := [.lit (.bool false)], args := [d1, d2] }
  | _ => none }
def EarcStepsWrongFalsely : Prop := earcStepsRow.holds Try.pinned (OpenSpec.ofChange earcStepsWrong)

/-- 'hopperlaw17.EarcLooks': WHATEVER THE INPUT: true; the input reads as it did. -/
def earcLooksSpec : ChangeSpec := { name := "earcLooks", fn := fun _ => fun
  | [d1, d2, d3] => { results := [.lit (.bool true)], args := [d1, d2, d3] }
  | _ => none }
def earcLooksRow : OpenClaim := { program := "ytgkblelgcikafaa", sum := "66b42b6cad4070b5e7cc99870dc42c35bbbf40f52b3cae5d259f1d7687024d41", func := "hopper/hopperlaw17.EarcLooks", spec := "earcLooks", unfollowed := true, recurses := true, apart := false }
def EarcLooksSaid : Prop := earcLooksRow.holds Try.pinned (OpenSpec.ofChange earcLooksSpec)

/-- ITS FALSE NEIGHBOUR: 'it returns false'. Refute it at one input. -/
def earcLooksWrong : ChangeSpec := { name := "earcLooks", fn := fun _ => fun
  | [d1, d2, d3] => { results := [.lit (.bool false)], args := [d1, d2, d3] }
  | _ => none }
def EarcLooksWrongFalsely : Prop := earcLooksRow.holds Try.pinned (OpenSpec.ofChange earcLooksWrong)

/-- 'hopperlaw17.EarcRooms': WHATEVER THE INPUT: true; the input reads as it did. -/
def earcRoomsSpec : ChangeSpec := { name := "earcRooms", fn := fun _ => fun
  | [d1, d2] => { results := [.lit (.bool true)], args := [d1, d2] }
  | _ => none }
def earcRoomsRow : OpenClaim := { program := "ytgkblelgcikafaa", sum := "66b42b6cad4070b5e7cc99870dc42c35bbbf40f52b3cae5d259f1d7687024d41", func := "hopper/hopperlaw17.EarcRooms", spec := "earcRooms", unfollowed := true, recurses := true, apart := false }
def EarcRoomsSaid : Prop := earcRoomsRow.holds Try.pinned (OpenSpec.ofChange earcRoomsSpec)

/-- ITS FALSE NEIGHBOUR: 'it returns false'. Refute it at one input. -/
def earcRoomsWrong : ChangeSpec := { name := "earcRooms", fn := fun _ => fun
  | [d1, d2] => { results := [.lit (.bool false)], args := [d1, d2] }
  | _ => none }
def EarcRoomsWrongFalsely : Prop := earcRoomsRow.holds Try.pinned (OpenSpec.ofChange earcRoomsWrong)

/-- 'hopperlaw17.EarcNobody': WHATEVER THE INPUT: true; the input reads as it did. -/
def earcNobodySpec : ChangeSpec := { name := "earcNobody", fn := fun _ => fun
  | [d1, d2] => { results := [.lit (.bool true)], args := [d1, d2] }
  | _ => none }
def earcNobodyRow : OpenClaim := { program := "ytgkblelgcikafaa", sum := "66b42b6cad4070b5e7cc99870dc42c35bbbf40f52b3cae5d259f1d7687024d41", func := "hopper/hopperlaw17.EarcNobody", spec := "earcNobody", unfollowed := true, recurses := true, apart := false }
def EarcNobodySaid : Prop := earcNobodyRow.holds Try.pinned (OpenSpec.ofChange earcNobodySpec)

/-- ITS FALSE NEIGHBOUR: 'it returns false'. Refute it at one input. -/
def earcNobodyWrong : ChangeSpec := { name := "earcNobody", fn := fun _ => fun
  | [d1, d2] => { results := [.lit (.bool false)], args := [d1, d2] }
  | _ => none }
def EarcNobodyWrongFalsely : Prop := earcNobodyRow.holds Try.pinned (OpenSpec.ofChange earcNobodyWrong)

/- THE SECOND FORM. 'bulk': how many values and letters a reading holds, each counted each time it is reached (what is shared counts as often as it is met; a slice's spare places count too). A statement '..UptoSaid' is the law's where the arguments, and the package variables that the reading takes, are together of bulk at most 1048576: NARROWER than '..Said'. Prove '..Said' where nothing that the law and all that it calls make is longer than what came in: it says more and counts as full. Else prove '..UptoSaid'. A law counts once. -/
mutual
def uptoBulk {H : Type} : DataW H → Nat
  | .lit (.string bytes) => bytes.length + 1
  | .lit _ => 1
  | .nil => 1
  | .ptr d => uptoBulk d + 1
  | .slice elems spare => uptoBulkAll elems + uptoBulkAll spare + 1
  | .agg parts => uptoBulkAll parts + 1
  | .iface _ d => uptoBulk d + 1
  | .map entries => uptoBulkEntries entries + 1
  | .held _ => 1
def uptoBulkAll {H : Type} : List (DataW H) → Nat
  | [] => 0
  | d :: r => uptoBulk d + uptoBulkAll r
def uptoBulkEntries {H : Type} : List (Lit × DataW H) → Nat
  | [] => 0
  | x :: r => uptoBulkEntry x + uptoBulkEntries r
def uptoBulkEntry {H : Type} : Lit × DataW H → Nat
  | (.string bytes, d) => bytes.length + uptoBulk d + 1
  | (_, d) => uptoBulk d + 1
 end
def uptoSmall : (H : Type) → List (DataW H) → Bool := fun _ ds => decide (uptoBulkAll ds ≤ 1048576)
def OpenSpec.upto (s : _root_.Go.ChangeSpec) : _root_.Go.OpenSpec := { _root_.Go.OpenSpec.ofChange s with cond := some uptoSmall }

/-- 'hopperlaw17.EarcSteps', WHERE WHAT IT READS IS OF BULK AT MOST 1048576: true; the input reads as it did. -/
def earcStepsUptoRow : OpenClaim := { program := "ytgkblelgcikafaa", sum := "66b42b6cad4070b5e7cc99870dc42c35bbbf40f52b3cae5d259f1d7687024d41", func := "hopper/hopperlaw17.EarcSteps", spec := "earcSteps", unfollowed := true, recurses := true, apart := false, narrowed := true }
def EarcStepsUptoSaid : Prop := earcStepsUptoRow.holds Try.pinned (OpenSpec.upto earcStepsSpec)

/-- 'hopperlaw17.EarcLooks', WHERE WHAT IT READS IS OF BULK AT MOST 1048576: true; the input reads as it did. -/
def earcLooksUptoRow : OpenClaim := { program := "ytgkblelgcikafaa", sum := "66b42b6cad4070b5e7cc99870dc42c35bbbf40f52b3cae5d259f1d7687024d41", func := "hopper/hopperlaw17.EarcLooks", spec := "earcLooks", unfollowed := true, recurses := true, apart := false, narrowed := true }
def EarcLooksUptoSaid : Prop := earcLooksUptoRow.holds Try.pinned (OpenSpec.upto earcLooksSpec)

/-- 'hopperlaw17.EarcRooms', WHERE WHAT IT READS IS OF BULK AT MOST 1048576: true; the input reads as it did. -/
def earcRoomsUptoRow : OpenClaim := { program := "ytgkblelgcikafaa", sum := "66b42b6cad4070b5e7cc99870dc42c35bbbf40f52b3cae5d259f1d7687024d41", func := "hopper/hopperlaw17.EarcRooms", spec := "earcRooms", unfollowed := true, recurses := true, apart := false, narrowed := true }
def EarcRoomsUptoSaid : Prop := earcRoomsUptoRow.holds Try.pinned (OpenSpec.upto earcRoomsSpec)

/-- 'hopperlaw17.EarcNobody', WHERE WHAT IT READS IS OF BULK AT MOST 1048576: true; the input reads as it did. -/
def earcNobodyUptoRow : OpenClaim := { program := "ytgkblelgcikafaa", sum := "66b42b6cad4070b5e7cc99870dc42c35bbbf40f52b3cae5d259f1d7687024d41", func := "hopper/hopperlaw17.EarcNobody", spec := "earcNobody", unfollowed := true, recurses := true, apart := false, narrowed := true }
def EarcNobodyUptoSaid : Prop := earcNobodyUptoRow.holds Try.pinned (OpenSpec.upto earcNobodySpec)

end Rows
end Go.Proofs.Ytgkblelgcikafaa
