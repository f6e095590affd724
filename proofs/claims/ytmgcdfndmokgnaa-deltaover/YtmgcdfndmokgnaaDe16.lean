/-
  Clocks that were put with numbers 0, 1, .. and ticks that came in: what they are behind so many ticks, and which are over; a row of 100 truths of the call's own. No condition.
-/
import Derived.Test.YtmgcdfndmokgnaaDe15
import Derived.Deep.WholeRow
namespace Go.Proofs.Ytmgcdfndmokgnaa
open Go Go.RowKit
set_option linter.unusedVariables false
set_option linter.unusedSimpArgs false

def okV (n : Int) : Bool := decide (1 ≤ n ∧ n < 4294967296)
/-- The clocks of the first j, behind t ticks. -/
def ovD (l : List Int) (t j : Nat) : List Ck := ((List.range j).filter fun i => okV (l.getD i 0) && decide ((t : Int) < l.getD i 0)).map fun i => (i, (l.getD i 0).toNat - t)
/-- Those of the first j that are over by the t-th tick. -/
def ovI (l : List Int) (t j : Nat) : List Nat := (List.range j).filter fun i => decide (l.getD i 0 = (t : Int))
theorem ovD_mem {l : List Int} {t j : Nat} {c : Ck} (h : c ∈ ovD l t j) : c.1 < j := by
  unfold ovD at h
  obtain ⟨i, hi, rfl⟩ := List.mem_map.1 h
  exact List.mem_range.1 (List.mem_filter.1 hi).1
theorem ovD_put (l : List Int) (j : Nat) (hj : j < 256) : putK (ovD l 0 j) (j : Int) (l.getD j 0) = okV (l.getD j 0) := by
  unfold putK okV
  apply bool_eq
  simp only [decide_eq_true_eq]
  constructor
  · rintro ⟨h1, h2, h3, h4, h5⟩; omega
  · rintro ⟨h1, h2⟩
    exact ⟨by omega, by omega, h1, by omega, fun c hc e => by have := ovD_mem hc; omega⟩
theorem ovD_next (l : List Int) (j : Nat) (hj : j < 256) : putD (ovD l 0 j) (j : Int) (l.getD j 0) = ovD l 0 (j + 1) := by
  unfold putD
  rw [ovD_put l j hj]
  unfold ovD
  rw [List.range_succ, List.filter_append, List.map_append]
  by_cases h : okV (l.getD j 0) = true
  · have h2 : (0 : Int) < l.getD j 0 := by
      unfold okV at h
      simp only [decide_eq_true_eq] at h
      omega
    rw [if_pos h, List.filter_cons_of_pos (by rw [h]; simpa using h2)]
    simp
  · rw [if_neg h, List.filter_cons_of_neg (by
      rw [Bool.eq_false_iff.2 h]; simp)]
    simp
theorem ovD_zero (l : List Int) : ovD l 0 0 = [] := rfl
theorem ovD_tick (l : List Int) (t j : Nat) : tickD (ovD l t j) = ovD l (t + 1) j := by
  unfold tickD ovD
  rw [List.map_map, List.filter_map, List.filter_filter]
  have e : ∀ i, (dec ∘ fun i => (i, (l.getD i 0).toNat - t)) i = (i, (l.getD i 0).toNat - (t + 1)) := fun i => rfl
  rw [show (dec ∘ fun i => (i, (l.getD i 0).toNat - t)) = (fun i => (i, (l.getD i 0).toNat - (t + 1))) from funext e]
  congr 1
  apply List.filter_congr
  intro i _
  apply bool_eq
  simp only [Function.comp, nilG, Bool.and_eq_true, Bool.not_eq_true', beq_eq_false_iff_ne, decide_eq_true_eq]
  constructor
  · rintro ⟨h1, h2, h3⟩; exact ⟨h2, by omega⟩
  · rintro ⟨h1, h2⟩; exact ⟨by omega, h1, by omega⟩
theorem ovD_over (l : List Int) (t j : Nat) (ht : t < 1000) : overD (ovD l t j) = ovI l (t + 1) j := by
  unfold overD ovD ovI
  rw [List.map_map, List.filter_map, List.map_map, List.filter_filter]
  rw [show ((fun c : Ck => c.1) ∘ (dec ∘ fun i => (i, (l.getD i 0).toNat - t))) = fun i => i from rfl, List.map_id']
  apply List.filter_congr
  intro i _
  apply bool_eq
  simp only [Function.comp, nilG, dec, okV, Bool.and_eq_true, beq_iff_eq, decide_eq_true_eq]
  constructor
  · rintro ⟨h1, h2, h3⟩; omega
  · intro h; refine ⟨by omega, by omega, by omega⟩
theorem ovI_next (l : List Int) (t j : Nat) : ovI l t (j + 1) = ovI l t j ++ (if l.getD j 0 = (t : Int) then [j] else []) := by
  unfold ovI
  rw [List.range_succ, List.filter_append]
  congr 1
  by_cases h : l.getD j 0 = (t : Int)
  · rw [if_pos h, List.filter_cons_of_pos (by simpa using h)]; rfl
  · rw [if_neg h, List.filter_cons_of_neg (by simpa using h)]; rfl
theorem ovI_le (l : List Int) (t j : Nat) : (ovI l t j).length ≤ j := Nat.le_trans (List.length_filter_le _ _) (by rw [List.length_range]; exact Nat.le_refl _)
theorem ovI_at (l : List Int) (t j i : Nat) (h : i < (ovI l t j).length) : (ovI l t j)[i] < j ∧ l.getD ((ovI l t j)[i]) 0 = (t : Int) := by
  obtain ⟨h1, h2⟩ := List.mem_filter.1 (show (ovI l t j)[i] ∈ (List.range j).filter (fun i => decide (l.getD i 0 = (t : Int))) from List.getElem_mem h)
  exact ⟨List.mem_range.1 h1, of_decide_eq_true h2⟩
theorem ovI_up (l : List Int) (t j i : Nat) (h : i + 1 < (ovI l t j).length) : (ovI l t j)[i] < (ovI l t j)[i + 1] := by
  have hp : (ovI l t j).Pairwise (· < ·) := List.Pairwise.filter _ List.pairwise_lt_range
  exact List.pairwise_iff_getElem.1 hp i (i + 1) (by omega) h (by omega)

/-- 100 truths in block k. -/
def AB (w : World) (k : Nat) (f : Nat → Bool) : Prop := ∃ c : Array Value, w.heap[k]? = some (.cells c 44 (0, 0)) ∧ c.size = 100 ∧ ∀ j, j < 100 → c[j]? = some (.bool (f j))
section
variable {w w' : World} {k : Nat} {f : Nat → Bool}
theorem AB.lt (h : AB w k f) : k < w.heap.size := by obtain ⟨c, h1, _⟩ := h; exact blk_lt h1
theorem AB.cell (h : AB w k f) (j : Nat) (hj : j < 100) : w.cell? ⟨k, j, none⟩ = some (.bool (f j)) := by
  obtain ⟨c, h1, h2, h3⟩ := h
  simp [World.cell?, h1, h3 j hj]
theorem AB.thawed (h : AB w k f) (j : Nat) : w.frozen? ⟨k, j, none⟩ = false := by
  obtain ⟨c, h1, h2, h3⟩ := h
  simp [World.frozen?, h1]
theorem AB.below (h : AB w k f) (hb : Below w.heap.size w w') : AB w' k f := by
  obtain ⟨c, h1, h2⟩ := h
  exact ⟨c, (hb.block k (blk_lt h1)).trans h1, h2⟩
theorem AB.kc (h : AB w k f) (hk : Kc w w') : AB w' k f := by
  obtain ⟨c, h1, h2⟩ := h
  exact ⟨c, hk k c _ h1 (by decide) (by decide), h2⟩
theorem AB.set (h : AB w k f) (j : Nat) (v : Bool) : AB (w.setCell ⟨k, j, none⟩ (.bool v)) k (fun i => if i = j then v else f i) := by
  obtain ⟨c, h1, h2, h3⟩ := h
  refine ⟨c.setIfInBounds j (.bool v), heap_setCell_same w k j c _ _ h1, by simp [h2], fun q hq => ?_⟩
  rw [Array.getElem?_setIfInBounds]
  by_cases e : j = q
  · subst e
    rw [if_pos rfl, if_pos (by omega)]
    simp
  · rw [if_neg e, h3 q hq]
    have e' : ¬ (q = j) := fun h => e (Eq.symm h)
    simp [e']
theorem AB.as {g : Nat → Bool} (h : AB w k f) (hg : ∀ j, j < 100 → g j = f j) : AB w k g := by
  obtain ⟨c, h1, h2, h3⟩ := h
  exact ⟨c, h1, h2, fun j hj => by rw [hg j hj]; exact h3 j hj⟩
/-- The list stays behind a store into the truths. -/
theorem OneL.aside {w0 : World} {m : Nat} {D : List Ck} (h : OneL w0 w m D) (a : AB w k f) (hk : w0.heap.size ≤ k) (j : Nat) (v : Value) : OneL w0 (w.setCell ⟨k, j, none⟩ v) m D := by
  obtain ⟨u, h⟩ := h
  obtain ⟨c, h1, -⟩ := a
  obtain ⟨L, hk2, hs⟩ := h.st
  have ho : Only w (w.setCell ⟨k, j, none⟩ v) (fun i => i = k) := Only.setCell w k j v _ rfl
  refine ⟨u, h.only ho (h.bel.trans (ho.below h.bel.size (fun i hi => by omega))) ?_ ?_⟩
  · rintro rfl
    rw [hk2.blk] at h1
    injection h1 with h1
    injection h1 with _ h1 _
    exact absurd h1 (by decide)
  · rintro i hi rfl
    obtain ⟨c2, g2⟩ := hk2.row.kind hi
    rw [g2] at h1
    injection h1 with h1
    injection h1 with _ h1 _
    exact absurd h1 (by decide)
end
def zbs (n : Nat) : Array Value := Array.replicate n (.bool false)
set_option maxRecDepth 100000 in
theorem Try.info100 : (Try.prog.info? 44).map (fun i => (i.zero, i.size)) = some (some (.agg (zbs 100)), 100) := by kernel_rfl
theorem zero_100 : ∃ Z : Array Value, (∀ w : World, AB (w.alloc (.cells Z 44)) w.heap.size (fun _ => false)) ∧ ∀ w, (zeroValue 44).run Try.prog w = .ok (.agg Z) w := by
  refine ⟨zbs 100, fun w => ⟨zbs 100, heap_alloc_new w _, by simp [zbs], fun j hj => ?_⟩, (zero_of_info Try.info100).1⟩
  unfold zbs
  rw [Array.getElem?_replicate, if_pos hj]

end Go.Proofs.Ytmgcdfndmokgnaa
