/-
  DERIVED. GIVEN WITH THE SEED: THE CARDS: each row of YtobioiicbdhboaaDoorRows.lean that lists a variable, with what it lists TIED to the program's text (the seventh form; the later family's looks); each row that meets fmt, with fmt's text TOLD by the authors' own Lean function (tested against real Go, not proved from fmt's source: count such statements apart). THE CARD IS WHAT COUNTS. Prove the row's statement (the work); the ties are given (YtobioiicbdhboaaDoorTie.lean); close each card by the builder's one call (the guide's Derived/Test/ToyasCard.lean, 'card_holds'). Laid BY PROGRAM, IN A SANDBOX (cutbox-door.mjs). By AI agents, Wed Nov 11 2026. No macro, syntax, notation, axiom, sorry.
-/
import Derived.Test.YtobioiicbdhboaaDoorRows
import GoSem.ClaimSeven
namespace Go.Proofs.YtobioiicbdhboaaDoor
namespace Rows

/-- THE TIED CARD OF 'taffraillaw09.HuntPlays'. -/
def huntPlaysCard : Claim7 := { stood := { row := huntPlaysRow, standIns := [], harness := (true, "118e78369a7a492317dfbc6f862d4afda6ca036458e8fef460fafc52eb989c68"), looks := false }, kinds := [], alts := [], laidByText := true, laidKinds := [.data], laidTests := true, laidLooks := .later }
def HuntPlaysCardSaid : Prop := Claim7.holds Tryd.pinned (.plain (OpenSpec.ofChange huntPlaysSpec)) huntPlaysCard

/-- THE TIED CARD OF 'taffraillaw09.HuntChunks'. -/
def huntChunksCard : Claim7 := { stood := { row := huntChunksRow, standIns := [], harness := (true, "118e78369a7a492317dfbc6f862d4afda6ca036458e8fef460fafc52eb989c68"), looks := false }, kinds := [], alts := [], laidByText := true, laidKinds := [.data], laidTests := true, laidLooks := .later }
def HuntChunksCardSaid : Prop := Claim7.holds Tryd.pinned (.plain (OpenSpec.ofChange huntChunksSpec)) huntChunksCard

/-- THE TIED CARD OF 'taffraillaw09.HuntCounts'. -/
def huntCountsCard : Claim7 := { stood := { row := huntCountsRow, standIns := [], harness := (true, "118e78369a7a492317dfbc6f862d4afda6ca036458e8fef460fafc52eb989c68"), looks := false }, kinds := [], alts := [], laidByText := true, laidKinds := [.data], laidTests := true, laidLooks := .later }
def HuntCountsCardSaid : Prop := Claim7.holds Tryd.pinned (.plain (OpenSpec.ofChange huntCountsSpec)) huntCountsCard

/-- THE TIED CARD OF 'taffraillaw09.HuntBurst'. -/
def huntBurstCard : Claim7 := { stood := { row := huntBurstRow, standIns := [], harness := (true, "118e78369a7a492317dfbc6f862d4afda6ca036458e8fef460fafc52eb989c68"), looks := false }, kinds := [], alts := [], laidByText := true, laidKinds := [.data], laidTests := true, laidLooks := .later }
def HuntBurstCardSaid : Prop := Claim7.holds Tryd.pinned (.plain (OpenSpec.ofChange huntBurstSpec)) huntBurstCard

/-- THE TIED CARD OF 'taffraillaw09.HuntJunk'. -/
def huntJunkCard : Claim7 := { stood := { row := huntJunkRow, standIns := [], harness := (true, "118e78369a7a492317dfbc6f862d4afda6ca036458e8fef460fafc52eb989c68"), looks := false }, kinds := [], alts := [], laidByText := true, laidKinds := [.data], laidTests := true, laidLooks := .later }
def HuntJunkCardSaid : Prop := Claim7.holds Tryd.pinned (.plain (OpenSpec.ofChange huntJunkSpec)) huntJunkCard

/-- THE TIED CARD OF 'taffraillaw09.HuntNil'. -/
def huntNilCard : Claim7 := { stood := { row := huntNilRow, standIns := [], harness := (true, "118e78369a7a492317dfbc6f862d4afda6ca036458e8fef460fafc52eb989c68"), looks := false }, kinds := [], alts := [], laidByText := true, laidKinds := [.data], laidTests := true, laidLooks := .later }
def HuntNilCardSaid : Prop := Claim7.holds Tryd.pinned (.plain (OpenSpec.ofChange huntNilSpec)) huntNilCard

/-- THE SECOND FORM's CARD OF 'taffraillaw09.HuntPlays'. -/
def huntPlaysUptoCard : Claim7 := { stood := { row := huntPlaysUptoRow, standIns := [], harness := (true, "118e78369a7a492317dfbc6f862d4afda6ca036458e8fef460fafc52eb989c68"), looks := false }, kinds := [], alts := [], laidByText := true, laidKinds := [.data], laidTests := true, laidLooks := .later }
def HuntPlaysUptoCardSaid : Prop := Claim7.holds Tryd.pinned (.plain (OpenSpec.upto huntPlaysSpec)) huntPlaysUptoCard

/-- THE SECOND FORM's CARD OF 'taffraillaw09.HuntChunks'. -/
def huntChunksUptoCard : Claim7 := { stood := { row := huntChunksUptoRow, standIns := [], harness := (true, "118e78369a7a492317dfbc6f862d4afda6ca036458e8fef460fafc52eb989c68"), looks := false }, kinds := [], alts := [], laidByText := true, laidKinds := [.data], laidTests := true, laidLooks := .later }
def HuntChunksUptoCardSaid : Prop := Claim7.holds Tryd.pinned (.plain (OpenSpec.upto huntChunksSpec)) huntChunksUptoCard

/-- THE SECOND FORM's CARD OF 'taffraillaw09.HuntCounts'. -/
def huntCountsUptoCard : Claim7 := { stood := { row := huntCountsUptoRow, standIns := [], harness := (true, "118e78369a7a492317dfbc6f862d4afda6ca036458e8fef460fafc52eb989c68"), looks := false }, kinds := [], alts := [], laidByText := true, laidKinds := [.data], laidTests := true, laidLooks := .later }
def HuntCountsUptoCardSaid : Prop := Claim7.holds Tryd.pinned (.plain (OpenSpec.upto huntCountsSpec)) huntCountsUptoCard

/-- THE SECOND FORM's CARD OF 'taffraillaw09.HuntBurst'. -/
def huntBurstUptoCard : Claim7 := { stood := { row := huntBurstUptoRow, standIns := [], harness := (true, "118e78369a7a492317dfbc6f862d4afda6ca036458e8fef460fafc52eb989c68"), looks := false }, kinds := [], alts := [], laidByText := true, laidKinds := [.data], laidTests := true, laidLooks := .later }
def HuntBurstUptoCardSaid : Prop := Claim7.holds Tryd.pinned (.plain (OpenSpec.upto huntBurstSpec)) huntBurstUptoCard

/-- THE SECOND FORM's CARD OF 'taffraillaw09.HuntJunk'. -/
def huntJunkUptoCard : Claim7 := { stood := { row := huntJunkUptoRow, standIns := [], harness := (true, "118e78369a7a492317dfbc6f862d4afda6ca036458e8fef460fafc52eb989c68"), looks := false }, kinds := [], alts := [], laidByText := true, laidKinds := [.data], laidTests := true, laidLooks := .later }
def HuntJunkUptoCardSaid : Prop := Claim7.holds Tryd.pinned (.plain (OpenSpec.upto huntJunkSpec)) huntJunkUptoCard

/-- THE SECOND FORM's CARD OF 'taffraillaw09.HuntNil'. -/
def huntNilUptoCard : Claim7 := { stood := { row := huntNilUptoRow, standIns := [], harness := (true, "118e78369a7a492317dfbc6f862d4afda6ca036458e8fef460fafc52eb989c68"), looks := false }, kinds := [], alts := [], laidByText := true, laidKinds := [.data], laidTests := true, laidLooks := .later }
def HuntNilUptoCardSaid : Prop := Claim7.holds Tryd.pinned (.plain (OpenSpec.upto huntNilSpec)) huntNilUptoCard
end Rows
end Go.Proofs.YtobioiicbdhboaaDoor
