/-
  DERIVED. GIVEN WITH THE SEED: THE CARDS: each row of YtoalgajbahlpjaaDoorRows.lean that lists a variable, with what it lists TIED to the program's text (the seventh form; the later family's looks); each row that meets fmt, with fmt's text TOLD by the authors' own Lean function (tested against real Go, not proved from fmt's source: count such statements apart). THE CARD IS WHAT COUNTS. Prove the row's statement (the work); the ties are given (YtoalgajbahlpjaaDoorTie.lean); close each card by the builder's one call (the guide's Derived/Test/ToyasCard.lean, 'card_holds'). Laid BY PROGRAM, IN A SANDBOX (cutbox-door.mjs). By AI agents, Wed Nov 11 2026. No macro, syntax, notation, axiom, sorry.
-/
import Derived.Test.YtoalgajbahlpjaaDoorRows
import GoSem.ClaimSeven
namespace Go.Proofs.YtoalgajbahlpjaaDoor
namespace Rows

/-- THE TIED CARD OF 'taffraillaw13.CpuDoes'. -/
def cpuDoesCard : Claim7 := { stood := { row := cpuDoesRow, standIns := [], harness := (true, "0b42f7759e634397925c5b0dd53f11862521784f70bc869feea86e70c1d9c602"), looks := false }, kinds := [], alts := [], laidByText := true, laidKinds := [.data], laidTests := true, laidLooks := .later }
def CpuDoesCardSaid : Prop := Claim7.holds Tryd.pinned (.plain (OpenSpec.ofChange cpuDoesSpec)) cpuDoesCard

/-- THE TIED CARD OF 'taffraillaw13.CpuRuns'. -/
def cpuRunsCard : Claim7 := { stood := { row := cpuRunsRow, standIns := [], harness := (true, "0b42f7759e634397925c5b0dd53f11862521784f70bc869feea86e70c1d9c602"), looks := false }, kinds := [], alts := [], laidByText := true, laidKinds := [.data], laidTests := true, laidLooks := .later }
def CpuRunsCardSaid : Prop := Claim7.holds Tryd.pinned (.plain (OpenSpec.ofChange cpuRunsSpec)) cpuRunsCard

/-- THE TIED CARD OF 'taffraillaw13.CpuParts'. -/
def cpuPartsCard : Claim7 := { stood := { row := cpuPartsRow, standIns := [], harness := (true, "0b42f7759e634397925c5b0dd53f11862521784f70bc869feea86e70c1d9c602"), looks := false }, kinds := [], alts := [], laidByText := true, laidKinds := [.data], laidTests := true, laidLooks := .later }
def CpuPartsCardSaid : Prop := Claim7.holds Tryd.pinned (.plain (OpenSpec.ofChange cpuPartsSpec)) cpuPartsCard

/-- THE TIED CARD OF 'taffraillaw13.CpuKeeps'. -/
def cpuKeepsCard : Claim7 := { stood := { row := cpuKeepsRow, standIns := [], harness := (true, "0b42f7759e634397925c5b0dd53f11862521784f70bc869feea86e70c1d9c602"), looks := false }, kinds := [], alts := [], laidByText := true, laidKinds := [.data], laidTests := true, laidLooks := .later }
def CpuKeepsCardSaid : Prop := Claim7.holds Tryd.pinned (.plain (OpenSpec.ofChange cpuKeepsSpec)) cpuKeepsCard

/-- THE TIED CARD OF 'taffraillaw13.CpuNil'. -/
def cpuNilCard : Claim7 := { stood := { row := cpuNilRow, standIns := [], harness := (true, "0b42f7759e634397925c5b0dd53f11862521784f70bc869feea86e70c1d9c602"), looks := false }, kinds := [], alts := [], laidByText := true, laidKinds := [.data], laidTests := true, laidLooks := .later }
def CpuNilCardSaid : Prop := Claim7.holds Tryd.pinned (.plain (OpenSpec.ofChange cpuNilSpec)) cpuNilCard

/-- THE SECOND FORM's CARD OF 'taffraillaw13.CpuDoes'. -/
def cpuDoesUptoCard : Claim7 := { stood := { row := cpuDoesUptoRow, standIns := [], harness := (true, "0b42f7759e634397925c5b0dd53f11862521784f70bc869feea86e70c1d9c602"), looks := false }, kinds := [], alts := [], laidByText := true, laidKinds := [.data], laidTests := true, laidLooks := .later }
def CpuDoesUptoCardSaid : Prop := Claim7.holds Tryd.pinned (.plain (OpenSpec.upto cpuDoesSpec)) cpuDoesUptoCard

/-- THE SECOND FORM's CARD OF 'taffraillaw13.CpuRuns'. -/
def cpuRunsUptoCard : Claim7 := { stood := { row := cpuRunsUptoRow, standIns := [], harness := (true, "0b42f7759e634397925c5b0dd53f11862521784f70bc869feea86e70c1d9c602"), looks := false }, kinds := [], alts := [], laidByText := true, laidKinds := [.data], laidTests := true, laidLooks := .later }
def CpuRunsUptoCardSaid : Prop := Claim7.holds Tryd.pinned (.plain (OpenSpec.upto cpuRunsSpec)) cpuRunsUptoCard

/-- THE SECOND FORM's CARD OF 'taffraillaw13.CpuParts'. -/
def cpuPartsUptoCard : Claim7 := { stood := { row := cpuPartsUptoRow, standIns := [], harness := (true, "0b42f7759e634397925c5b0dd53f11862521784f70bc869feea86e70c1d9c602"), looks := false }, kinds := [], alts := [], laidByText := true, laidKinds := [.data], laidTests := true, laidLooks := .later }
def CpuPartsUptoCardSaid : Prop := Claim7.holds Tryd.pinned (.plain (OpenSpec.upto cpuPartsSpec)) cpuPartsUptoCard

/-- THE SECOND FORM's CARD OF 'taffraillaw13.CpuKeeps'. -/
def cpuKeepsUptoCard : Claim7 := { stood := { row := cpuKeepsUptoRow, standIns := [], harness := (true, "0b42f7759e634397925c5b0dd53f11862521784f70bc869feea86e70c1d9c602"), looks := false }, kinds := [], alts := [], laidByText := true, laidKinds := [.data], laidTests := true, laidLooks := .later }
def CpuKeepsUptoCardSaid : Prop := Claim7.holds Tryd.pinned (.plain (OpenSpec.upto cpuKeepsSpec)) cpuKeepsUptoCard

/-- THE SECOND FORM's CARD OF 'taffraillaw13.CpuNil'. -/
def cpuNilUptoCard : Claim7 := { stood := { row := cpuNilUptoRow, standIns := [], harness := (true, "0b42f7759e634397925c5b0dd53f11862521784f70bc869feea86e70c1d9c602"), looks := false }, kinds := [], alts := [], laidByText := true, laidKinds := [.data], laidTests := true, laidLooks := .later }
def CpuNilUptoCardSaid : Prop := Claim7.holds Tryd.pinned (.plain (OpenSpec.upto cpuNilSpec)) cpuNilUptoCard
end Rows
end Go.Proofs.YtoalgajbahlpjaaDoor
