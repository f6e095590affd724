/-
  What the listed package-level variable gives the walks, for a seat whose rows list isa.rows alone; slots for the laws' frame. Conditions: the row's own list of variables, which the card ties to the program's text.
-/
import Derived.Test.YtoalgajbahlpjaaDoorIsL
namespace Go.Proofs.YtoalgajbahlpjaaDoor
open Go.ChangeShapes Go.WideShapes Go.ChangeAt Go.RowKit
set_option linter.unusedVariables false

def laidL : List (String × DataW Unit) := [("taffrail/isa.rows", Rows.laid_taffrail_isa_rows)]

set_option maxRecDepth 100000 in
theorem of_laid {W : World} (h : laidMetH Tryd.prog laidL W) (hsh : W.ShapedOpen Tryd.prog) : IsL W := by
  rw [MakeChecks.laidMetH_plain _ _ _ (by kernel_rfl)] at h
  exact isL_of h

end Go.Proofs.YtoalgajbahlpjaaDoor
