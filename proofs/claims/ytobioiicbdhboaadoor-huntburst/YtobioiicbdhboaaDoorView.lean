/-
  What a walk is told of a slice that came in: integers, strings, bools. Out of the reading that the row gives. No condition.
-/
import Derived.Test.YtobioiicbdhboaaDoorRows
import Derived.WalkKit
import Derived.WalkSpells
import Derived.WalkLawsBesides
import Derived.Lib.Hide
import Derived.ProofKit
import Derived.OpenShut
import Derived.ShutString
import Derived.HandedShaped
import Derived.SliceStrings
import Derived.Deep.Grids
import Derived.Lib.ConvBytes
import Derived.SizedLaws
namespace Go.Proofs.YtobioiicbdhboaaDoor
open Go.ChangeShapes Go.WideShapes Go.ChangeAt Go.RowKit
open Go.ChangeMaps (open_string shut_string)
set_option linter.unusedVariables false

/-- A slice of one-cell elements: its i-th element is cell i of a row that was there, and is the value f i. -/
structure Seen (w : World) (ao : Option Addr) (len cap : Nat) (f : Nat → Value) : Prop where
  mx : len ≤ maxLen
  lc : len ≤ cap
  row : ∀ i, i < len → ∃ b off, ao = some ⟨b, off, none⟩ ∧ b < w.heap.size ∧ ∀ j, j < len → w.cell? ⟨b, off + j, none⟩ = some (f j)

theorem seen_of {w : World} {ao : Option Addr} {len cap : Nat} {f : Nat → Value} (x : Addr) (hx : ao = some x) (hlc : len ≤ cap) (hm : cap ≤ maxLen) (hc : ∀ i, i < cap → w.cell? (x.add i) = some (f i)) : Seen w ao len cap f := by
  refine ⟨by omega, hlc, fun i hi => ?_⟩
  subst hx
  have h0 := hc 0 (by omega)
  obtain ⟨b, o, sp⟩ := x
  cases sp with
  | some z =>
    simp only [Addr.add, World.cell?] at h0
    split at h0 <;> simp at h0
  | none =>
    have ha : ∀ j, (⟨b, o, none⟩ : Addr).add j = ⟨b, o + j, none⟩ := fun j => by unfold Addr.add; split <;> simp_all
    exact ⟨b, o, rfl, World.block_lt_of_cell? w _ h0, fun j hj => by rw [← ha]; exact hc j (by omega)⟩

/-- How a slice's reading looks: nothing is in it, or its elements are as many as its length. -/
def Shows {H : Type} (d : DataW H) (len : Nat) : Prop := len = 0 ∨ ∃ el sp, d = .slice el sp ∧ el.length = len

theorem open_strs {H : Type} {enc : TypeId × Value → H} {W : World} {ao : Option Addr} {len cap : Nat} {d : DataW H} {ps : List MemPlace}
    (h : DataW.Trod enc Tryd.prog W 0 (fun _ => true) true 22 (.slice ao len cap) d ps) :
    ∃ ss : List ByteArray, Seen W ao len cap (fun i => .string (ss.getD i ByteArray.empty)) ∧ (∀ s ∈ ss, s.size ≤ maxLen) ∧ Shows d len := by
  obtain ⟨fuel, hf⟩ := h
  rcases open_strings Tryd.underlying22 Tryd.underlying9 (by kernel_rfl) hf with ⟨hcs, _⟩ | ⟨x, l, c, zs, hcs, _, hl, hm, hz, hx, hcell, hwz⟩
  · simp [Value.cells] at hcs
    obtain ⟨rfl, rfl, rfl⟩ := hcs
    exact ⟨[], ⟨by simp, Nat.le_refl _, fun i hi => absurd hi (by omega)⟩, by simp, .inl rfl⟩
  · simp [Value.cells] at hcs
    obtain ⟨rfl, rfl, rfl⟩ := hcs
    simp only [Prod.mk.injEq] at hx
    simp at hz
    exact ⟨zs, seen_of x rfl hl hm (fun i hi => hcell i (by omega)), hwz, .inr ⟨_, _, hx.1, by simp [strs]; omega⟩⟩


end Go.Proofs.YtobioiicbdhboaaDoor
