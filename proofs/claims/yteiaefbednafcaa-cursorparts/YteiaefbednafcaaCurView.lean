/-
  What a walk is told of a slice that came in: integers, strings, bools. Out of the reading that the row gives. No condition.
-/
import Derived.Test.YteiaefbednafcaaCurAwake
import Derived.ProofKit
import Derived.OpenShut
import Derived.ShutString
import Derived.HandedShaped
import Derived.SliceStrings
namespace Go.Proofs.Yteiaefbednafcaa
open Go.ChangeShapes Go.WideShapes Go.ChangeAt Go.RowKit
open Go.ChangeMaps (open_string shut_string)
set_option linter.unusedVariables false

theorem hasLen (W : World) (hsh : W.ShapedOpen Try.prog) : HasLen W := Try.laysM143.s1_3 W hsh

/-- A slice of one-cell elements: its i-th element is cell i of a row that was there, and is the value f i. -/
structure Seen (w : World) (ao : Option Addr) (len cap : Nat) (f : Nat → Value) : Prop where
  mx : len ≤ maxLen
  lc : len ≤ cap
  row : ∀ i, i < len → ∃ b off, ao = some ⟨b, off, none⟩ ∧ b < w.heap.size ∧ ∀ j, j < len → w.cell? ⟨b, off + j, none⟩ = some (f j)

theorem seen_of {w : World} {ao : Option Addr} {len cap : Nat} {f : Nat → Value} (x : Addr) (hx : ao = some x) (hlc : len ≤ cap) (hm : cap ≤ maxLen) (hc : ∀ i, i < cap → w.cell? (x.add i) = some (f i)) : Seen w ao len cap f := by
  refine ⟨by omega, hlc, fun i hi => ?_⟩
  subst hx
  have h0 := hc 0 (by omega)
  obtain ⟨b, o, sp⟩ := x
  cases sp with
  | some z =>
    simp only [Addr.add, World.cell?] at h0
    split at h0 <;> simp at h0
  | none =>
    have ha : ∀ j, (⟨b, o, none⟩ : Addr).add j = ⟨b, o + j, none⟩ := fun j => by unfold Addr.add; split <;> simp_all
    exact ⟨b, o, rfl, World.block_lt_of_cell? w _ h0, fun j hj => by rw [← ha]; exact hc j (by omega)⟩

theorem open_ints64 {H : Type} {enc : TypeId × Value → H} {W : World} {ao : Option Addr} {len cap : Nat} {d : DataW H} {ps : List MemPlace}
    (h : DataW.Trod enc Try.prog W 0 (fun _ => true) true 49 (.slice ao len cap) d ps) :
    ∃ zs : List Int, Seen W ao len cap (fun i => .int .i64 (zs.getD i 0)) ∧ ∀ n ∈ zs, (Lit.int .i64 n).wf = true := by
  obtain ⟨fuel, hf⟩ := h
  rcases open_ints Try.underlying49 Try.underlying3 (by kernel_rfl) hf with ⟨hcs, _⟩ | ⟨x, l, c, zs, hcs, _, hl, hm, hz, _, hcell, hwz⟩
  · simp [Value.cells] at hcs
    obtain ⟨rfl, rfl, rfl⟩ := hcs
    exact ⟨[], ⟨by simp, Nat.le_refl _, fun i hi => absurd hi (by omega)⟩, by simp⟩
  · simp [Value.cells] at hcs
    obtain ⟨rfl, rfl, rfl⟩ := hcs
    exact ⟨zs, seen_of x rfl hl hm (fun i hi => hcell i (by simp at hz; omega)), hwz⟩

end Go.Proofs.Yteiaefbednafcaa
