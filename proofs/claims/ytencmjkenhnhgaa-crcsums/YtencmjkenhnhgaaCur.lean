/-
  What each call of package cursor (layer 1) does to the world, a contract for each function, over this seat's translation. Conditions: a reader is a block with its text and its place; a writer is a block with a slice of bytes that it owns.
-/
import Derived.Test.YtencmjkenhnhgaaRows
import Derived.WalkKit
import Derived.WalkSpells
import Derived.WalkLawsBesides
import Derived.Deep.QuietTactic
import Derived.BigQuiet
import Derived.Lib.Hide
namespace Go.Proofs.Ytencmjkenhnhgaa
open Go.RowKit
set_option linter.unusedVariables false

theorem grow_set (w : World) (b i : Nat) (v : Value) (n : Nat) : w.grownBy ((w.setCell ⟨b, i, none⟩ v).drewN n) (some b) :=
  ⟨rfl, rfl, rfl, by simp, fun k _ hk => heap_setCell_other w _ k v (fun h => hk (by simp [h]))⟩
theorem extract_rest (s : ByteArray) (k n : Nat) (h : k + n ≤ s.size) : (s.extract k s.size).extract 0 n = s.extract k (k + n) := by
  rw [ByteArray.extract_extract]
  congr 1
  omega


end Go.Proofs.Ytencmjkenhnhgaa
