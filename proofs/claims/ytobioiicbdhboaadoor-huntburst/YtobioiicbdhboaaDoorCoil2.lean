/-
  What coil's put, Size and Print do, over this seat's translation. Conditions: the table's cells (EvL); the events' numbers fit.
-/
import Derived.Test.YtobioiicbdhboaaDoorCoil1
namespace Go.Proofs.YtobioiicbdhboaaDoor
open Go.RowKit
set_option linter.unusedVariables false
set_option linter.unusedSimpArgs false

/-- What an event behind another one adds. -/
def addB (d e : Ev) : List UInt8 := if putE d e = 0 then evBytes d e else []

end Go.Proofs.YtobioiicbdhboaaDoor
