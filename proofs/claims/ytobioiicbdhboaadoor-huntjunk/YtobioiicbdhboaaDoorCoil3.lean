/-
  What coil's Print does, over this seat's translation. Conditions: the table's cells (EvL); the events' numbers fit; no more than a million events.
-/
import Derived.Test.YtobioiicbdhboaaDoorCoil2
namespace Go.Proofs.YtobioiicbdhboaaDoor
open Go.RowKit
set_option linter.unusedVariables false
set_option linter.unusedSimpArgs false

theorem addB_len (d e : Ev) (f : EvFits e) : (addB d e).length ≤ 100 := by
  unfold addB
  split
  · rename_i h
    obtain ⟨hc, ht⟩ := putE_zero h
    obtain ⟨t1, t2, -, -⟩ := told_fold ht
    have h1 : (lebL (stepN d e)).length ≤ 10 := lebL_len10 _ (by omega)
    have h2 : (lebL (foldN d e)).length ≤ 10 := lebL_len10 _ (by omega)
    have ho : ∀ has m, m < 4294967296 → (optL has m).length ≤ 10 := fun has m hm => by unfold optL; split; exact lebL_len10 _ (by omega); simp
    have h3 := ho (hasA e.kind) e.a f.a
    have h4 := ho (hasB e.kind) e.b f.b
    have h5 := ho (hasV e.kind) e.v f.v
    simp only [evBytes, List.length_cons, List.length_append]
    omega
  · simp

theorem bef_zero {l : List Ev} {k : Nat} (h : k < l.length) (hk : k = 0) : befE l k = l[k] := by
  subst hk; unfold befE; rw [List.getD_eq_getElem?_getD, List.getElem?_eq_getElem h]; rfl


end Go.Proofs.YtobioiicbdhboaaDoor
