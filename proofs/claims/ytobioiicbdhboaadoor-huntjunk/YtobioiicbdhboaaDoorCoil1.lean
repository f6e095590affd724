/-
  What coil's functions that print do (steps, putField, put, Size, Print), a contract for each, over this seat's translation. Conditions: the table's cells (EvL); the events' numbers fit.
-/
import Derived.Test.YtobioiicbdhboaaDoorCoil0
import Derived.Test.YtobioiicbdhboaaDoorEvS
import Derived.Test.YtobioiicbdhboaaDoorLebFoot
namespace Go.Proofs.YtobioiicbdhboaaDoor
open Go.RowKit
set_option linter.unusedVariables false
set_option linter.unusedSimpArgs false

theorem box_two (w : World) (o p : Obj) : Below w.heap.size w ((w.alloc o).alloc p) := ((Below.refl _ w).alloc (Nat.le_refl _) _).alloc (by simp) _

theorem EvL.only {w w' : World} {S : Nat → Prop} (h : EvL w) (ho : Only w w' S) (hn : ¬ S 0) : EvL w' := by
  have hB : w'.heap[0]? = w.heap[0]? := ho.block _ h.lt hn
  refine ⟨fun k hk => ?_⟩
  obtain ⟨p, q, r, s⟩ := h.row k hk
  exact ⟨(World.cell?_of_block (w := w) hB).trans p, (World.cell?_of_block (w := w) hB).trans q, (World.cell?_of_block (w := w) hB).trans r, (World.cell?_of_block (w := w) hB).trans s⟩

theorem ev_block_lt {n : Nat} (h1 : 1 ≤ n) (h2 : n ≤ 24) : IntKind.u8.wrap (n : Int) = (n : Int) := by rw [IntKind.wrap_u8]; omega


end Go.Proofs.YtobioiicbdhboaaDoor
