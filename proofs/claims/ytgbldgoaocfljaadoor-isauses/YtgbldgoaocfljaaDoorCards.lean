/-
  DERIVED. GIVEN WITH THE SEED: THE CARDS: each row of YtgbldgoaocfljaaDoorRows.lean that lists a variable, with what it lists TIED to the program's text (the seventh form; the later family's looks); each row that meets fmt, with fmt's text TOLD by the authors' own Lean function (tested against real Go, not proved from fmt's source: count such statements apart). THE CARD IS WHAT COUNTS. Prove the row's statement (the work); the ties are given (YtgbldgoaocfljaaDoorTie.lean); close each card by the builder's one call (the guide's Derived/Test/ToyasCard.lean, 'card_holds'). Laid BY PROGRAM, IN A SANDBOX (cutbox-door.mjs). By AI agents, Wed Nov 11 2026. No macro, syntax, notation, axiom, sorry.
-/
import Derived.Test.YtgbldgoaocfljaaDoorRows
import GoSem.ClaimSeven
namespace Go.Proofs.YtgbldgoaocfljaaDoor
namespace Rows

/-- THE TIED CARD OF 'taffraillaw10.IsaForms'. -/
def isaFormsCard : Claim7 := { stood := { row := isaFormsRow, standIns := [], harness := (true, "3d9026f5da548d6adf5b436891520c1c1939fbd195ba33209ed10f1e5d1d682f"), looks := false }, kinds := [], alts := [], laidByText := true, laidKinds := [.data], laidTests := true, laidLooks := .later }
def IsaFormsCardSaid : Prop := Claim7.holds Tryd.pinned (.plain (OpenSpec.ofChange isaFormsSpec)) isaFormsCard

/-- THE TIED CARD OF 'taffraillaw10.IsaChecks'. -/
def isaChecksCard : Claim7 := { stood := { row := isaChecksRow, standIns := [], harness := (true, "3d9026f5da548d6adf5b436891520c1c1939fbd195ba33209ed10f1e5d1d682f"), looks := false }, kinds := [], alts := [], laidByText := true, laidKinds := [.data], laidTests := true, laidLooks := .later }
def IsaChecksCardSaid : Prop := Claim7.holds Tryd.pinned (.plain (OpenSpec.ofChange isaChecksSpec)) isaChecksCard

/-- THE TIED CARD OF 'taffraillaw10.IsaUses'. -/
def isaUsesCard : Claim7 := { stood := { row := isaUsesRow, standIns := [], harness := (true, "3d9026f5da548d6adf5b436891520c1c1939fbd195ba33209ed10f1e5d1d682f"), looks := false }, kinds := [], alts := [], laidByText := true, laidKinds := [.data], laidTests := true, laidLooks := .later }
def IsaUsesCardSaid : Prop := Claim7.holds Tryd.pinned (.plain (OpenSpec.ofChange isaUsesSpec)) isaUsesCard

/-- THE TIED CARD OF 'taffraillaw10.IsaNames'. -/
def isaNamesCard : Claim7 := { stood := { row := isaNamesRow, standIns := [], harness := (true, "3d9026f5da548d6adf5b436891520c1c1939fbd195ba33209ed10f1e5d1d682f"), looks := false }, kinds := [], alts := [], laidByText := true, laidKinds := [.data], laidTests := true, laidLooks := .later }
def IsaNamesCardSaid : Prop := Claim7.holds Tryd.pinned (.plain (OpenSpec.ofChange isaNamesSpec)) isaNamesCard

/-- THE TIED CARD OF 'taffraillaw10.IsaWays'. -/
def isaWaysCard : Claim7 := { stood := { row := isaWaysRow, standIns := [], harness := (true, "3d9026f5da548d6adf5b436891520c1c1939fbd195ba33209ed10f1e5d1d682f"), looks := false }, kinds := [], alts := [], laidByText := true, laidKinds := [.data], laidTests := true, laidLooks := .later }
def IsaWaysCardSaid : Prop := Claim7.holds Tryd.pinned (.plain (OpenSpec.ofChange isaWaysSpec)) isaWaysCard

/-- THE SECOND FORM's CARD OF 'taffraillaw10.IsaForms'. -/
def isaFormsUptoCard : Claim7 := { stood := { row := isaFormsUptoRow, standIns := [], harness := (true, "3d9026f5da548d6adf5b436891520c1c1939fbd195ba33209ed10f1e5d1d682f"), looks := false }, kinds := [], alts := [], laidByText := true, laidKinds := [.data], laidTests := true, laidLooks := .later }
def IsaFormsUptoCardSaid : Prop := Claim7.holds Tryd.pinned (.plain (OpenSpec.upto isaFormsSpec)) isaFormsUptoCard

/-- THE SECOND FORM's CARD OF 'taffraillaw10.IsaChecks'. -/
def isaChecksUptoCard : Claim7 := { stood := { row := isaChecksUptoRow, standIns := [], harness := (true, "3d9026f5da548d6adf5b436891520c1c1939fbd195ba33209ed10f1e5d1d682f"), looks := false }, kinds := [], alts := [], laidByText := true, laidKinds := [.data], laidTests := true, laidLooks := .later }
def IsaChecksUptoCardSaid : Prop := Claim7.holds Tryd.pinned (.plain (OpenSpec.upto isaChecksSpec)) isaChecksUptoCard

/-- THE SECOND FORM's CARD OF 'taffraillaw10.IsaUses'. -/
def isaUsesUptoCard : Claim7 := { stood := { row := isaUsesUptoRow, standIns := [], harness := (true, "3d9026f5da548d6adf5b436891520c1c1939fbd195ba33209ed10f1e5d1d682f"), looks := false }, kinds := [], alts := [], laidByText := true, laidKinds := [.data], laidTests := true, laidLooks := .later }
def IsaUsesUptoCardSaid : Prop := Claim7.holds Tryd.pinned (.plain (OpenSpec.upto isaUsesSpec)) isaUsesUptoCard

/-- THE SECOND FORM's CARD OF 'taffraillaw10.IsaNames'. -/
def isaNamesUptoCard : Claim7 := { stood := { row := isaNamesUptoRow, standIns := [], harness := (true, "3d9026f5da548d6adf5b436891520c1c1939fbd195ba33209ed10f1e5d1d682f"), looks := false }, kinds := [], alts := [], laidByText := true, laidKinds := [.data], laidTests := true, laidLooks := .later }
def IsaNamesUptoCardSaid : Prop := Claim7.holds Tryd.pinned (.plain (OpenSpec.upto isaNamesSpec)) isaNamesUptoCard

/-- THE SECOND FORM's CARD OF 'taffraillaw10.IsaWays'. -/
def isaWaysUptoCard : Claim7 := { stood := { row := isaWaysUptoRow, standIns := [], harness := (true, "3d9026f5da548d6adf5b436891520c1c1939fbd195ba33209ed10f1e5d1d682f"), looks := false }, kinds := [], alts := [], laidByText := true, laidKinds := [.data], laidTests := true, laidLooks := .later }
def IsaWaysUptoCardSaid : Prop := Claim7.holds Tryd.pinned (.plain (OpenSpec.upto isaWaysSpec)) isaWaysUptoCard
end Rows
end Go.Proofs.YtgbldgoaocfljaaDoor
