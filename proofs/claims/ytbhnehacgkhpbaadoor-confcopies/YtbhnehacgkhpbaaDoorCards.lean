/-
  DERIVED. GIVEN WITH THE SEED: THE CARDS: each row of YtbhnehacgkhpbaaDoorRows.lean that lists a variable, with what it lists TIED to the program's text (the seventh form; the later family's looks); each row that meets fmt, with fmt's text TOLD by the authors' own Lean function (tested against real Go, not proved from fmt's source: count such statements apart). THE CARD IS WHAT COUNTS. Prove the row's statement (the work); the ties are given (YtbhnehacgkhpbaaDoorTie.lean); close each card by the builder's one call (the guide's Derived/Test/ToyasCard.lean, 'card_holds'). Laid BY PROGRAM, IN A SANDBOX (cutbox-door.mjs). By AI agents, Wed Nov 11 2026. No macro, syntax, notation, axiom, sorry.
-/
import Derived.Test.YtbhnehacgkhpbaaDoorRows
import GoSem.ClaimSeven
namespace Go.Proofs.YtbhnehacgkhpbaaDoor
namespace Rows

/-- THE TIED CARD OF 'taffraillaw12.ConfTells'. -/
def confTellsCard : Claim7 := { stood := { row := confTellsRow, standIns := [], harness := (true, "7a703f59754246ec8b6153ad8bb38ca62969c482e328945a9c70f61f8316bfcb"), looks := false }, kinds := [], alts := [], laidByText := true, laidKinds := [.data], laidTests := true, laidLooks := .later }
def ConfTellsCardSaid : Prop := Claim7.holds Tryd.pinned (.plain (OpenSpec.ofChange confTellsSpec)) confTellsCard

/-- THE TIED CARD OF 'taffraillaw12.ConfCopies'. -/
def confCopiesCard : Claim7 := { stood := { row := confCopiesRow, standIns := [], harness := (true, "7a703f59754246ec8b6153ad8bb38ca62969c482e328945a9c70f61f8316bfcb"), looks := false }, kinds := [], alts := [], laidByText := true, laidKinds := [.data], laidTests := true, laidLooks := .later }
def ConfCopiesCardSaid : Prop := Claim7.holds Tryd.pinned (.plain (OpenSpec.ofChange confCopiesSpec)) confCopiesCard

/-- THE TIED CARD OF 'taffraillaw12.ConfSame'. -/
def confSameCard : Claim7 := { stood := { row := confSameRow, standIns := [], harness := (true, "7a703f59754246ec8b6153ad8bb38ca62969c482e328945a9c70f61f8316bfcb"), looks := false }, kinds := [], alts := [], laidByText := true, laidKinds := [.data], laidTests := true, laidLooks := .later }
def ConfSameCardSaid : Prop := Claim7.holds Tryd.pinned (.plain (OpenSpec.ofChange confSameSpec)) confSameCard

/-- THE TIED CARD OF 'taffraillaw12.ConfFewer'. -/
def confFewerCard : Claim7 := { stood := { row := confFewerRow, standIns := [], harness := (true, "7a703f59754246ec8b6153ad8bb38ca62969c482e328945a9c70f61f8316bfcb"), looks := false }, kinds := [], alts := [], laidByText := true, laidKinds := [.data], laidTests := true, laidLooks := .later }
def ConfFewerCardSaid : Prop := Claim7.holds Tryd.pinned (.plain (OpenSpec.ofChange confFewerSpec)) confFewerCard

/-- THE TIED CARD OF 'taffraillaw12.ConfFirst'. -/
def confFirstCard : Claim7 := { stood := { row := confFirstRow, standIns := [], harness := (true, "7a703f59754246ec8b6153ad8bb38ca62969c482e328945a9c70f61f8316bfcb"), looks := false }, kinds := [], alts := [], laidByText := true, laidKinds := [.data], laidTests := true, laidLooks := .later }
def ConfFirstCardSaid : Prop := Claim7.holds Tryd.pinned (.plain (OpenSpec.ofChange confFirstSpec)) confFirstCard

/-- THE SECOND FORM's CARD OF 'taffraillaw12.ConfTells'. -/
def confTellsUptoCard : Claim7 := { stood := { row := confTellsUptoRow, standIns := [], harness := (true, "7a703f59754246ec8b6153ad8bb38ca62969c482e328945a9c70f61f8316bfcb"), looks := false }, kinds := [], alts := [], laidByText := true, laidKinds := [.data], laidTests := true, laidLooks := .later }
def ConfTellsUptoCardSaid : Prop := Claim7.holds Tryd.pinned (.plain (OpenSpec.upto confTellsSpec)) confTellsUptoCard

/-- THE SECOND FORM's CARD OF 'taffraillaw12.ConfCopies'. -/
def confCopiesUptoCard : Claim7 := { stood := { row := confCopiesUptoRow, standIns := [], harness := (true, "7a703f59754246ec8b6153ad8bb38ca62969c482e328945a9c70f61f8316bfcb"), looks := false }, kinds := [], alts := [], laidByText := true, laidKinds := [.data], laidTests := true, laidLooks := .later }
def ConfCopiesUptoCardSaid : Prop := Claim7.holds Tryd.pinned (.plain (OpenSpec.upto confCopiesSpec)) confCopiesUptoCard

/-- THE SECOND FORM's CARD OF 'taffraillaw12.ConfSame'. -/
def confSameUptoCard : Claim7 := { stood := { row := confSameUptoRow, standIns := [], harness := (true, "7a703f59754246ec8b6153ad8bb38ca62969c482e328945a9c70f61f8316bfcb"), looks := false }, kinds := [], alts := [], laidByText := true, laidKinds := [.data], laidTests := true, laidLooks := .later }
def ConfSameUptoCardSaid : Prop := Claim7.holds Tryd.pinned (.plain (OpenSpec.upto confSameSpec)) confSameUptoCard

/-- THE SECOND FORM's CARD OF 'taffraillaw12.ConfFewer'. -/
def confFewerUptoCard : Claim7 := { stood := { row := confFewerUptoRow, standIns := [], harness := (true, "7a703f59754246ec8b6153ad8bb38ca62969c482e328945a9c70f61f8316bfcb"), looks := false }, kinds := [], alts := [], laidByText := true, laidKinds := [.data], laidTests := true, laidLooks := .later }
def ConfFewerUptoCardSaid : Prop := Claim7.holds Tryd.pinned (.plain (OpenSpec.upto confFewerSpec)) confFewerUptoCard

/-- THE SECOND FORM's CARD OF 'taffraillaw12.ConfFirst'. -/
def confFirstUptoCard : Claim7 := { stood := { row := confFirstUptoRow, standIns := [], harness := (true, "7a703f59754246ec8b6153ad8bb38ca62969c482e328945a9c70f61f8316bfcb"), looks := false }, kinds := [], alts := [], laidByText := true, laidKinds := [.data], laidTests := true, laidLooks := .later }
def ConfFirstUptoCardSaid : Prop := Claim7.holds Tryd.pinned (.plain (OpenSpec.upto confFirstSpec)) confFirstUptoCard
end Rows
end Go.Proofs.YtbhnehacgkhpbaaDoor
