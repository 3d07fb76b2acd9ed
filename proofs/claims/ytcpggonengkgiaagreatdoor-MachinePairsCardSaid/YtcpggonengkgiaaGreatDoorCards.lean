/-
  DERIVED. GIVEN WITH THE SEED: THE CARDS: each row of YtcpggonengkgiaaGreatDoorRows.lean that lists a variable, with what it lists TIED to the program's text (the seventh form; the later family's looks); each row that meets fmt, with fmt's text TOLD by the authors' own Lean function (tested against real Go, not proved from fmt's source: count such statements apart). THE CARD IS WHAT COUNTS. Prove the row's statement (the work); the ties are given (YtcpggonengkgiaaGreatDoorTie.lean); close each card by the builder's one call (the guide's Derived/Test/ToyasCard.lean, 'card_holds'). Laid BY PROGRAM, IN A SANDBOX (cutbox-door.mjs). By AI agents, Wed Nov 11 2026. No macro, syntax, notation, axiom, sorry.
-/
import Derived.Test.YtcpggonengkgiaaGreatDoorRows
import GoSem.ClaimSeven
namespace Go.Proofs.YtcpggonengkgiaaGreatDoor
namespace Rows

/-- THE TIED CARD OF 'hopperlaw13.MachineSteps'. -/
def machineStepsCard : Claim7 := { stood := { row := machineStepsRow, standIns := [], harness := (true, "8ef5b11ebf11739bd6294896c544434e94bb854247f585109a72b55a7f666781"), looks := true }, kinds := [], alts := [], laidByText := true, laidKinds := [.handle], laidTests := true, laidLooks := .later }
def MachineStepsCardSaid : Prop := Claim7.holds Tryz.pinned (.plain (OpenSpec.ofChange machineStepsSpec)) machineStepsCard

/-- THE TIED CARD OF 'hopperlaw13.MachineNew'. -/
def machineNewCard : Claim7 := { stood := { row := machineNewRow, standIns := [], harness := (true, "8ef5b11ebf11739bd6294896c544434e94bb854247f585109a72b55a7f666781"), looks := true }, kinds := [], alts := [], laidByText := true, laidKinds := [.handle], laidTests := true, laidLooks := .later }
def MachineNewCardSaid : Prop := Claim7.holds Tryz.pinned (.plain (OpenSpec.ofChange machineNewSpec)) machineNewCard

/-- THE TIED CARD OF 'hopperlaw13.MachinePairs'. -/
def machinePairsCard : Claim7 := { stood := { row := machinePairsRow, standIns := [], harness := (true, "8ef5b11ebf11739bd6294896c544434e94bb854247f585109a72b55a7f666781"), looks := true }, kinds := [], alts := [], laidByText := true, laidKinds := [.handle], laidTests := true, laidLooks := .later }
def MachinePairsCardSaid : Prop := Claim7.holds Tryz.pinned (.plain (OpenSpec.ofChange machinePairsSpec)) machinePairsCard

/-- THE TIED CARD OF 'hopperlaw13.MachineIdle'. -/
def machineIdleCard : Claim7 := { stood := { row := machineIdleRow, standIns := [], harness := (true, "8ef5b11ebf11739bd6294896c544434e94bb854247f585109a72b55a7f666781"), looks := true }, kinds := [], alts := [], laidByText := true, laidKinds := [.handle], laidTests := true, laidLooks := .later }
def MachineIdleCardSaid : Prop := Claim7.holds Tryz.pinned (.plain (OpenSpec.ofChange machineIdleSpec)) machineIdleCard

/-- THE TIED CARD OF 'hopperlaw13.MachineCounts'. -/
def machineCountsCard : Claim7 := { stood := { row := machineCountsRow, standIns := [], harness := (true, "8ef5b11ebf11739bd6294896c544434e94bb854247f585109a72b55a7f666781"), looks := true }, kinds := [], alts := [], laidByText := true, laidKinds := [.handle], laidTests := true, laidLooks := .later }
def MachineCountsCardSaid : Prop := Claim7.holds Tryz.pinned (.plain (OpenSpec.ofChange machineCountsSpec)) machineCountsCard

/-- THE SECOND FORM's CARD OF 'hopperlaw13.MachineSteps'. -/
def machineStepsUptoCard : Claim7 := { stood := { row := machineStepsUptoRow, standIns := [], harness := (true, "8ef5b11ebf11739bd6294896c544434e94bb854247f585109a72b55a7f666781"), looks := true }, kinds := [], alts := [], laidByText := true, laidKinds := [.handle], laidTests := true, laidLooks := .later }
def MachineStepsUptoCardSaid : Prop := Claim7.holds Tryz.pinned (.plain (OpenSpec.upto machineStepsSpec)) machineStepsUptoCard

/-- THE SECOND FORM's CARD OF 'hopperlaw13.MachineNew'. -/
def machineNewUptoCard : Claim7 := { stood := { row := machineNewUptoRow, standIns := [], harness := (true, "8ef5b11ebf11739bd6294896c544434e94bb854247f585109a72b55a7f666781"), looks := true }, kinds := [], alts := [], laidByText := true, laidKinds := [.handle], laidTests := true, laidLooks := .later }
def MachineNewUptoCardSaid : Prop := Claim7.holds Tryz.pinned (.plain (OpenSpec.upto machineNewSpec)) machineNewUptoCard

/-- THE SECOND FORM's CARD OF 'hopperlaw13.MachinePairs'. -/
def machinePairsUptoCard : Claim7 := { stood := { row := machinePairsUptoRow, standIns := [], harness := (true, "8ef5b11ebf11739bd6294896c544434e94bb854247f585109a72b55a7f666781"), looks := true }, kinds := [], alts := [], laidByText := true, laidKinds := [.handle], laidTests := true, laidLooks := .later }
def MachinePairsUptoCardSaid : Prop := Claim7.holds Tryz.pinned (.plain (OpenSpec.upto machinePairsSpec)) machinePairsUptoCard

/-- THE SECOND FORM's CARD OF 'hopperlaw13.MachineIdle'. -/
def machineIdleUptoCard : Claim7 := { stood := { row := machineIdleUptoRow, standIns := [], harness := (true, "8ef5b11ebf11739bd6294896c544434e94bb854247f585109a72b55a7f666781"), looks := true }, kinds := [], alts := [], laidByText := true, laidKinds := [.handle], laidTests := true, laidLooks := .later }
def MachineIdleUptoCardSaid : Prop := Claim7.holds Tryz.pinned (.plain (OpenSpec.upto machineIdleSpec)) machineIdleUptoCard

/-- THE SECOND FORM's CARD OF 'hopperlaw13.MachineCounts'. -/
def machineCountsUptoCard : Claim7 := { stood := { row := machineCountsUptoRow, standIns := [], harness := (true, "8ef5b11ebf11739bd6294896c544434e94bb854247f585109a72b55a7f666781"), looks := true }, kinds := [], alts := [], laidByText := true, laidKinds := [.handle], laidTests := true, laidLooks := .later }
def MachineCountsUptoCardSaid : Prop := Claim7.holds Tryz.pinned (.plain (OpenSpec.upto machineCountsSpec)) machineCountsUptoCard
end Rows
end Go.Proofs.YtcpggonengkgiaaGreatDoor
