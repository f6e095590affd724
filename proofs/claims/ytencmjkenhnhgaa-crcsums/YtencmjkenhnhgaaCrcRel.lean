/-
  Calls of package crc as operations of a region that draws its order: what is known in every world of it (nothing that was there is turned; the table stands).
-/
import Derived.Test.YtencmjkenhnhgaaCrcAwake
import Derived.Test.YtencmjkenhnhgaaRel
namespace Go.Proofs.Ytencmjkenhnhgaa
open Go.RowKit
set_option linter.unusedVariables false

/-- Of what was there when w0 stood nothing is turned, and in block b lies a table. -/
def CT (w0 : World) (b : Nat) (w : World) : Prop := Below w0.heap.size w0 w ∧ TabK w b 256
theorem CT.step {w0 : World} {b : Nat} {w w' : World} (h : CT w0 b w) (hb : Below w.heap.size w w') : CT w0 b w' :=
  ⟨h.1.trans (hb.mono h.1.size), h.2.below hb h.2.lt⟩
theorem below_new (w : World) (o : Obj) : Below w.heap.size w (w.alloc o) := (Below.refl _ _).alloc (Nat.le_refl _) _
end Go.Proofs.Ytencmjkenhnhgaa
