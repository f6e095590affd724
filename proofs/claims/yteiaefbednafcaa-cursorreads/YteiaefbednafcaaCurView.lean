/-
  What a walk is told of a slice that came in: integers, strings, bools. Out of the reading that the row gives. No condition.
-/
import Derived.Test.YteiaefbednafcaaCurAwake
import Derived.ProofKit
import Derived.OpenShut
import Derived.ShutString
import Derived.HandedShaped
import Derived.SliceStrings
import Derived.Deep.Grids
import Derived.Lib.ConvBytes
import Derived.SizedLaws
namespace Go.Proofs.Yteiaefbednafcaa
open Go.ChangeShapes Go.WideShapes Go.ChangeAt Go.RowKit
open Go.ChangeMaps (open_string shut_string)
set_option linter.unusedVariables false

theorem hasLen (W : World) (hsh : W.ShapedOpen Try.prog) : HasLen W := Try.laysM143.s1_3 W hsh

/-- A slice of one-cell elements: its i-th element is cell i of a row that was there, and is the value f i. -/
structure Seen (w : World) (ao : Option Addr) (len cap : Nat) (f : Nat → Value) : Prop where
  mx : len ≤ maxLen
  lc : len ≤ cap
  row : ∀ i, i < len → ∃ b off, ao = some ⟨b, off, none⟩ ∧ b < w.heap.size ∧ ∀ j, j < len → w.cell? ⟨b, off + j, none⟩ = some (f j)

theorem seen_of {w : World} {ao : Option Addr} {len cap : Nat} {f : Nat → Value} (x : Addr) (hx : ao = some x) (hlc : len ≤ cap) (hm : cap ≤ maxLen) (hc : ∀ i, i < cap → w.cell? (x.add i) = some (f i)) : Seen w ao len cap f := by
  refine ⟨by omega, hlc, fun i hi => ?_⟩
  subst hx
  have h0 := hc 0 (by omega)
  obtain ⟨b, o, sp⟩ := x
  cases sp with
  | some z =>
    simp only [Addr.add, World.cell?] at h0
    split at h0 <;> simp at h0
  | none =>
    have ha : ∀ j, (⟨b, o, none⟩ : Addr).add j = ⟨b, o + j, none⟩ := fun j => by unfold Addr.add; split <;> simp_all
    exact ⟨b, o, rfl, World.block_lt_of_cell? w _ h0, fun j hj => by rw [← ha]; exact hc j (by omega)⟩

theorem open_ints64 {H : Type} {enc : TypeId × Value → H} {W : World} {ao : Option Addr} {len cap : Nat} {d : DataW H} {ps : List MemPlace}
    (h : DataW.Trod enc Try.prog W 0 (fun _ => true) true 49 (.slice ao len cap) d ps) :
    ∃ zs : List Int, Seen W ao len cap (fun i => .int .i64 (zs.getD i 0)) ∧ ∀ n ∈ zs, (Lit.int .i64 n).wf = true := by
  obtain ⟨fuel, hf⟩ := h
  rcases open_ints Try.underlying49 Try.underlying3 (by kernel_rfl) hf with ⟨hcs, _⟩ | ⟨x, l, c, zs, hcs, _, hl, hm, hz, _, hcell, hwz⟩
  · simp [Value.cells] at hcs
    obtain ⟨rfl, rfl, rfl⟩ := hcs
    exact ⟨[], ⟨by simp, Nat.le_refl _, fun i hi => absurd hi (by omega)⟩, by simp⟩
  · simp [Value.cells] at hcs
    obtain ⟨rfl, rfl, rfl⟩ := hcs
    exact ⟨zs, seen_of x rfl hl hm (fun i hi => hcell i (by simp at hz; omega)), hwz⟩

/-- How a slice's reading looks: nothing is in it, or its elements are as many as its length. -/
def Shows {H : Type} (d : DataW H) (len : Nat) : Prop := len = 0 ∨ ∃ el sp, d = .slice el sp ∧ el.length = len

theorem open_strs {H : Type} {enc : TypeId × Value → H} {W : World} {ao : Option Addr} {len cap : Nat} {d : DataW H} {ps : List MemPlace}
    (h : DataW.Trod enc Try.prog W 0 (fun _ => true) true 40 (.slice ao len cap) d ps) :
    ∃ ss : List ByteArray, Seen W ao len cap (fun i => .string (ss.getD i ByteArray.empty)) ∧ (∀ s ∈ ss, s.size ≤ maxLen) ∧ Shows d len := by
  obtain ⟨fuel, hf⟩ := h
  rcases open_strings Try.underlying40 Try.underlying9 (by kernel_rfl) hf with ⟨hcs, _⟩ | ⟨x, l, c, zs, hcs, _, hl, hm, hz, hx, hcell, hwz⟩
  · simp [Value.cells] at hcs
    obtain ⟨rfl, rfl, rfl⟩ := hcs
    exact ⟨[], ⟨by simp, Nat.le_refl _, fun i hi => absurd hi (by omega)⟩, by simp, .inl rfl⟩
  · simp [Value.cells] at hcs
    obtain ⟨rfl, rfl, rfl⟩ := hcs
    simp only [Prod.mk.injEq] at hx
    simp at hz
    exact ⟨zs, seen_of x rfl hl hm (fun i hi => hcell i (by omega)), hwz, .inr ⟨_, _, hx.1, by simp [strs]; omega⟩⟩

theorem open_bools1 {H : Type} {enc : TypeId × Value → H} {W : World} {ao : Option Addr} {len cap : Nat} {d : DataW H} {ps : List MemPlace}
    (h : DataW.Trod enc Try.prog W 0 (fun _ => true) true 41 (.slice ao len cap) d ps) :
    ∃ bs : Nat → Bool, Seen W ao len cap (fun i => .bool (bs i)) := by
  obtain ⟨fuel, hf⟩ := h
  rcases Deep.open_bools Try.underlying41 Try.underlying4 (by kernel_rfl) hf with ⟨hcs, _⟩ | ⟨x, l, c, zs, hcs, _, hl, hm, _, hcell⟩
  · simp [Value.cells] at hcs
    obtain ⟨rfl, rfl, rfl⟩ := hcs
    exact ⟨fun _ => false, ⟨by simp, Nat.le_refl _, fun i hi => absurd hi (by omega)⟩⟩
  · simp [Value.cells] at hcs
    obtain ⟨rfl, rfl, rfl⟩ := hcs
    exact ⟨zs, seen_of x rfl hl hm (fun i hi => hcell i hi)⟩

theorem bytes_grown (w : World) (e : TypeId) (s : ByteArray) (row : Option Nat) : w.grownBy (Lib.bytesWorld w e s) row :=
  ⟨rfl, rfl, rfl, by rw [Lib.bytesWorld_size]; omega, fun k hk _ => Lib.bytesWorld_at_old w e s k hk⟩

theorem Wr.bytes {w : World} {b : Nat} {l : List UInt8} (h : Wr w b l) (e : TypeId) (s : ByteArray) : Wr (Lib.bytesWorld w e s) b l := by
  have hlt := h.lt
  obtain ⟨v, h1, h2⟩ := h
  refine ⟨v, by rw [Lib.bytesWorld_at_old w e s b hlt]; exact h1, h2.kept (bytes_grown w e s none) (by cases hv : v.ownBlock <;> simp)⟩

theorem bytes_cells (w : World) (s : ByteArray) : ∀ j u, (cellsOf s.data.toList)[j]? = some u → (Lib.bytesWorld w 5 s).cell? ((⟨w.heap.size, 0, none⟩ : Addr).add j) = some u := by
  intro j u hj
  have ha : (⟨w.heap.size, 0, none⟩ : Addr).add j = ⟨w.heap.size, j, none⟩ := by unfold Addr.add; split <;> simp_all
  have hjl : j < s.data.toList.length := by
    have := (List.getElem?_eq_some_iff.1 hj).1
    simpa [cellsOf] using this
  rw [ha, Lib.bytesWorld_cell w _ s j hjl]
  simp only [cellsOf, List.getElem?_map, List.getElem?_eq_getElem hjl, Option.map_some, Option.some.injEq] at hj
  rw [← hj, List.getD_eq_getElem?_getD, List.getElem?_eq_getElem hjl]
  rfl

end Go.Proofs.Yteiaefbednafcaa
