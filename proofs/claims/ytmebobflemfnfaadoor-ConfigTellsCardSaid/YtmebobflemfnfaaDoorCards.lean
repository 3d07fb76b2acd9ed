/-
  DERIVED. GIVEN WITH THE SEED: THE CARDS: each row of YtmebobflemfnfaaDoorRows.lean that lists a variable, with what it lists TIED to the program's text (the seventh form; the later family's looks); each row that meets fmt, with fmt's text TOLD by the authors' own Lean function (tested against real Go, not proved from fmt's source: count such statements apart). THE CARD IS WHAT COUNTS. Prove the row's statement (the work); the ties are given (YtmebobflemfnfaaDoorTie.lean); close each card by the builder's one call (the guide's Derived/Test/ToyasCard.lean, 'card_holds'). Laid BY PROGRAM, IN A SANDBOX (cutbox-door.mjs). By AI agents, Wed Nov 11 2026. No macro, syntax, notation, axiom, sorry.
-/
import Derived.Test.YtmebobflemfnfaaDoorRows
import GoSem.ClaimSeven
namespace Go.Proofs.YtmebobflemfnfaaDoor
namespace Rows

/-- THE TIED CARD OF 'hopperlaw01.ConfigMay'. -/
def configMayCard : Claim7 := { stood := { row := configMayRow, standIns := [], harness := (true, "c332f69f14955610480227de8b41c5357058c08ac05cf72f8eb2adfdb2d83723"), looks := true }, kinds := [], alts := [], laidByText := true, laidKinds := [.handle], laidTests := true, laidLooks := .later }
def ConfigMayCardSaid : Prop := Claim7.holds Tryd.pinned (.plain (OpenSpec.ofChange configMaySpec)) configMayCard

/-- THE TIED CARD OF 'hopperlaw01.ConfigIs'. -/
def configIsCard : Claim7 := { stood := { row := configIsRow, standIns := [], harness := (true, "c332f69f14955610480227de8b41c5357058c08ac05cf72f8eb2adfdb2d83723"), looks := true }, kinds := [], alts := [], laidByText := true, laidKinds := [.handle], laidTests := true, laidLooks := .later }
def ConfigIsCardSaid : Prop := Claim7.holds Tryd.pinned (.plain (OpenSpec.ofChange configIsSpec)) configIsCard

/-- THE TIED CARD OF 'hopperlaw01.ConfigField'. -/
def configFieldCard : Claim7 := { stood := { row := configFieldRow, standIns := [], harness := (true, "c332f69f14955610480227de8b41c5357058c08ac05cf72f8eb2adfdb2d83723"), looks := true }, kinds := [], alts := [], laidByText := true, laidKinds := [.handle], laidTests := true, laidLooks := .later }
def ConfigFieldCardSaid : Prop := Claim7.holds Tryd.pinned (.plain (OpenSpec.ofChange configFieldSpec)) configFieldCard

/-- THE TIED CARD OF 'hopperlaw01.ConfigTells'. -/
def configTellsCard : Claim7 := { stood := { row := configTellsRow, standIns := [], harness := (true, "c332f69f14955610480227de8b41c5357058c08ac05cf72f8eb2adfdb2d83723"), looks := true }, kinds := [], alts := [], laidByText := true, laidKinds := [.data, .data, .data, .handle], laidTests := true, laidLooks := .later }
def ConfigTellsCardSaid : Prop := Claim7.holds Tryd.pinned (.plain (OpenSpec.ofChange configTellsSpec)) configTellsCard

/-- THE TIED CARD OF 'hopperlaw01.ConfigNobody'. -/
def configNobodyCard : Claim7 := { stood := { row := configNobodyRow, standIns := [], harness := (true, "c332f69f14955610480227de8b41c5357058c08ac05cf72f8eb2adfdb2d83723"), looks := true }, kinds := [], alts := [], laidByText := true, laidKinds := [.data, .data, .data, .handle], laidTests := true, laidLooks := .later }
def ConfigNobodyCardSaid : Prop := Claim7.holds Tryd.pinned (.plain (OpenSpec.ofChange configNobodySpec)) configNobodyCard

/-- THE SECOND FORM's CARD OF 'hopperlaw01.ConfigMay'. -/
def configMayUptoCard : Claim7 := { stood := { row := configMayUptoRow, standIns := [], harness := (true, "c332f69f14955610480227de8b41c5357058c08ac05cf72f8eb2adfdb2d83723"), looks := true }, kinds := [], alts := [], laidByText := true, laidKinds := [.handle], laidTests := true, laidLooks := .later }
def ConfigMayUptoCardSaid : Prop := Claim7.holds Tryd.pinned (.plain (OpenSpec.upto configMaySpec)) configMayUptoCard

/-- THE SECOND FORM's CARD OF 'hopperlaw01.ConfigIs'. -/
def configIsUptoCard : Claim7 := { stood := { row := configIsUptoRow, standIns := [], harness := (true, "c332f69f14955610480227de8b41c5357058c08ac05cf72f8eb2adfdb2d83723"), looks := true }, kinds := [], alts := [], laidByText := true, laidKinds := [.handle], laidTests := true, laidLooks := .later }
def ConfigIsUptoCardSaid : Prop := Claim7.holds Tryd.pinned (.plain (OpenSpec.upto configIsSpec)) configIsUptoCard

/-- THE SECOND FORM's CARD OF 'hopperlaw01.ConfigField'. -/
def configFieldUptoCard : Claim7 := { stood := { row := configFieldUptoRow, standIns := [], harness := (true, "c332f69f14955610480227de8b41c5357058c08ac05cf72f8eb2adfdb2d83723"), looks := true }, kinds := [], alts := [], laidByText := true, laidKinds := [.handle], laidTests := true, laidLooks := .later }
def ConfigFieldUptoCardSaid : Prop := Claim7.holds Tryd.pinned (.plain (OpenSpec.upto configFieldSpec)) configFieldUptoCard

/-- THE SECOND FORM's CARD OF 'hopperlaw01.ConfigTells'. -/
def configTellsUptoCard : Claim7 := { stood := { row := configTellsUptoRow, standIns := [], harness := (true, "c332f69f14955610480227de8b41c5357058c08ac05cf72f8eb2adfdb2d83723"), looks := true }, kinds := [], alts := [], laidByText := true, laidKinds := [.data, .data, .data, .handle], laidTests := true, laidLooks := .later }
def ConfigTellsUptoCardSaid : Prop := Claim7.holds Tryd.pinned (.plain (OpenSpec.upto configTellsSpec)) configTellsUptoCard

/-- THE SECOND FORM's CARD OF 'hopperlaw01.ConfigNobody'. -/
def configNobodyUptoCard : Claim7 := { stood := { row := configNobodyUptoRow, standIns := [], harness := (true, "c332f69f14955610480227de8b41c5357058c08ac05cf72f8eb2adfdb2d83723"), looks := true }, kinds := [], alts := [], laidByText := true, laidKinds := [.data, .data, .data, .handle], laidTests := true, laidLooks := .later }
def ConfigNobodyUptoCardSaid : Prop := Claim7.holds Tryd.pinned (.plain (OpenSpec.upto configNobodySpec)) configNobodyUptoCard
end Rows
end Go.Proofs.YtmebobflemfnfaaDoor
