/-
  The writer of package cursor, with its footprint: Put turns the writer's block and its row's block, and no other; the row's block stays, or is a new one. Over this seat's translation.
-/
import Derived.Test.YtobioiicbdhboaaDoorCurKit
import Derived.Test.YtobioiicbdhboaaDoorFoot
namespace Go.Proofs.YtobioiicbdhboaaDoor
open Go.RowKit
set_option linter.unusedVariables false


end Go.Proofs.YtobioiicbdhboaaDoor
