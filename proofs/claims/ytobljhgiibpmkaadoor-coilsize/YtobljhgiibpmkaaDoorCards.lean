/-
  DERIVED. GIVEN WITH THE SEED: THE CARDS: each row of YtobljhgiibpmkaaDoorRows.lean that lists a variable, with what it lists TIED to the program's text (the seventh form; the later family's looks); each row that meets fmt, with fmt's text TOLD by the authors' own Lean function (tested against real Go, not proved from fmt's source: count such statements apart). THE CARD IS WHAT COUNTS. Prove the row's statement (the work); the ties are given (YtobljhgiibpmkaaDoorTie.lean); close each card by the builder's one call (the guide's Derived/Test/ToyasCard.lean, 'card_holds'). Laid BY PROGRAM, IN A SANDBOX (cutbox-door.mjs). By AI agents, Wed Nov 11 2026. No macro, syntax, notation, axiom, sorry.
-/
import Derived.Test.YtobljhgiibpmkaaDoorRows
import GoSem.ClaimSeven
namespace Go.Proofs.YtobljhgiibpmkaaDoor
namespace Rows

/-- THE TIED CARD OF 'taffraillaw06.CoilPrints'. -/
def coilPrintsCard : Claim7 := { stood := { row := coilPrintsRow, standIns := [], harness := (true, "196b31f5663b131a40d72dd2eb9220674da6fb0f570cdaf45513f048574e3198"), looks := false }, kinds := [], alts := [], laidByText := true, laidKinds := [.data], laidTests := true, laidLooks := .later }
def CoilPrintsCardSaid : Prop := Claim7.holds Tryd.pinned (.plain (OpenSpec.ofChange coilPrintsSpec)) coilPrintsCard

/-- THE TIED CARD OF 'taffraillaw06.CoilReads'. -/
def coilReadsCard : Claim7 := { stood := { row := coilReadsRow, standIns := [], harness := (true, "196b31f5663b131a40d72dd2eb9220674da6fb0f570cdaf45513f048574e3198"), looks := false }, kinds := [], alts := [], laidByText := true, laidKinds := [.data], laidTests := true, laidLooks := .later }
def CoilReadsCardSaid : Prop := Claim7.holds Tryd.pinned (.plain (OpenSpec.ofChange coilReadsSpec)) coilReadsCard

/-- THE TIED CARD OF 'taffraillaw06.CoilBack'. -/
def coilBackCard : Claim7 := { stood := { row := coilBackRow, standIns := [], harness := (true, "196b31f5663b131a40d72dd2eb9220674da6fb0f570cdaf45513f048574e3198"), looks := false }, kinds := [], alts := [], laidByText := true, laidKinds := [.data], laidTests := true, laidLooks := .later }
def CoilBackCardSaid : Prop := Claim7.holds Tryd.pinned (.plain (OpenSpec.ofChange coilBackSpec)) coilBackCard

/-- THE TIED CARD OF 'taffraillaw06.CoilOne'. -/
def coilOneCard : Claim7 := { stood := { row := coilOneRow, standIns := [], harness := (true, "196b31f5663b131a40d72dd2eb9220674da6fb0f570cdaf45513f048574e3198"), looks := false }, kinds := [], alts := [], laidByText := true, laidKinds := [.data], laidTests := true, laidLooks := .later }
def CoilOneCardSaid : Prop := Claim7.holds Tryd.pinned (.plain (OpenSpec.ofChange coilOneSpec)) coilOneCard

/-- THE TIED CARD OF 'taffraillaw06.CoilSize'. -/
def coilSizeCard : Claim7 := { stood := { row := coilSizeRow, standIns := [], harness := (true, "196b31f5663b131a40d72dd2eb9220674da6fb0f570cdaf45513f048574e3198"), looks := false }, kinds := [], alts := [], laidByText := true, laidKinds := [.data], laidTests := true, laidLooks := .later }
def CoilSizeCardSaid : Prop := Claim7.holds Tryd.pinned (.plain (OpenSpec.ofChange coilSizeSpec)) coilSizeCard

/-- THE TIED CARD OF 'taffraillaw06.CoilRuns'. -/
def coilRunsCard : Claim7 := { stood := { row := coilRunsRow, standIns := [], harness := (true, "196b31f5663b131a40d72dd2eb9220674da6fb0f570cdaf45513f048574e3198"), looks := false }, kinds := [], alts := [], laidByText := true, laidKinds := [.data], laidTests := true, laidLooks := .later }
def CoilRunsCardSaid : Prop := Claim7.holds Tryd.pinned (.plain (OpenSpec.ofChange coilRunsSpec)) coilRunsCard

/-- THE SECOND FORM's CARD OF 'taffraillaw06.CoilPrints'. -/
def coilPrintsUptoCard : Claim7 := { stood := { row := coilPrintsUptoRow, standIns := [], harness := (true, "196b31f5663b131a40d72dd2eb9220674da6fb0f570cdaf45513f048574e3198"), looks := false }, kinds := [], alts := [], laidByText := true, laidKinds := [.data], laidTests := true, laidLooks := .later }
def CoilPrintsUptoCardSaid : Prop := Claim7.holds Tryd.pinned (.plain (OpenSpec.upto coilPrintsSpec)) coilPrintsUptoCard

/-- THE SECOND FORM's CARD OF 'taffraillaw06.CoilReads'. -/
def coilReadsUptoCard : Claim7 := { stood := { row := coilReadsUptoRow, standIns := [], harness := (true, "196b31f5663b131a40d72dd2eb9220674da6fb0f570cdaf45513f048574e3198"), looks := false }, kinds := [], alts := [], laidByText := true, laidKinds := [.data], laidTests := true, laidLooks := .later }
def CoilReadsUptoCardSaid : Prop := Claim7.holds Tryd.pinned (.plain (OpenSpec.upto coilReadsSpec)) coilReadsUptoCard

/-- THE SECOND FORM's CARD OF 'taffraillaw06.CoilBack'. -/
def coilBackUptoCard : Claim7 := { stood := { row := coilBackUptoRow, standIns := [], harness := (true, "196b31f5663b131a40d72dd2eb9220674da6fb0f570cdaf45513f048574e3198"), looks := false }, kinds := [], alts := [], laidByText := true, laidKinds := [.data], laidTests := true, laidLooks := .later }
def CoilBackUptoCardSaid : Prop := Claim7.holds Tryd.pinned (.plain (OpenSpec.upto coilBackSpec)) coilBackUptoCard

/-- THE SECOND FORM's CARD OF 'taffraillaw06.CoilOne'. -/
def coilOneUptoCard : Claim7 := { stood := { row := coilOneUptoRow, standIns := [], harness := (true, "196b31f5663b131a40d72dd2eb9220674da6fb0f570cdaf45513f048574e3198"), looks := false }, kinds := [], alts := [], laidByText := true, laidKinds := [.data], laidTests := true, laidLooks := .later }
def CoilOneUptoCardSaid : Prop := Claim7.holds Tryd.pinned (.plain (OpenSpec.upto coilOneSpec)) coilOneUptoCard

/-- THE SECOND FORM's CARD OF 'taffraillaw06.CoilSize'. -/
def coilSizeUptoCard : Claim7 := { stood := { row := coilSizeUptoRow, standIns := [], harness := (true, "196b31f5663b131a40d72dd2eb9220674da6fb0f570cdaf45513f048574e3198"), looks := false }, kinds := [], alts := [], laidByText := true, laidKinds := [.data], laidTests := true, laidLooks := .later }
def CoilSizeUptoCardSaid : Prop := Claim7.holds Tryd.pinned (.plain (OpenSpec.upto coilSizeSpec)) coilSizeUptoCard

/-- THE SECOND FORM's CARD OF 'taffraillaw06.CoilRuns'. -/
def coilRunsUptoCard : Claim7 := { stood := { row := coilRunsUptoRow, standIns := [], harness := (true, "196b31f5663b131a40d72dd2eb9220674da6fb0f570cdaf45513f048574e3198"), looks := false }, kinds := [], alts := [], laidByText := true, laidKinds := [.data], laidTests := true, laidLooks := .later }
def CoilRunsUptoCardSaid : Prop := Claim7.holds Tryd.pinned (.plain (OpenSpec.upto coilRunsSpec)) coilRunsUptoCard
end Rows
end Go.Proofs.YtobljhgiibpmkaaDoor
