/-
  Put of package leb with its footprint, over this seat's translation.
-/
import Derived.Test.YtobioiicbdhboaaDoorCurFoot
import Derived.Test.YtobioiicbdhboaaDoorLebAwake
namespace Go.Proofs.YtobioiicbdhboaaDoor
open Go.RowKit
set_option linter.unusedVariables false


end Go.Proofs.YtobioiicbdhboaaDoor
