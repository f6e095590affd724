/-
  The library functions that this seat calls: what they return, laid out of the compiled contracts. Conditions: as each says (texts shorter than 4294967281 bytes where the library searches).
-/
import Derived.Shelf.Lay
import Derived.Shelf.LaySoft

import Derived.Test.YtobioiicbdhboaaDoorProg
namespace Go.Proofs
open Go.Shelf
shelf_tried
end Go.Proofs
