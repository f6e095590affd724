/-
  A region that draws its order and holds one call that turns something, and a comparison of what it answers with what the others tell; the rest of it only reads. Whether the call was made tells what the world is. Nothing of the translation is named here.
-/
import Derived.Test.YteglnlhdgfpglaaRel6
namespace Go.Proofs.Yteglnlhdgfpglaa
open Go Go.RowKit
set_option linter.unusedVariables false

structure OneC (P0 P1 : World → Prop) (z : Bool) (a c sa sc : Nat) (l : Array Bool) (x : Nat → Value) (w : World) : Prop where
  p0 : l.getD a false = false → P0 w
  p1 : l.getD a false = true → P1 w ∧ x sa = .bool z
  p3 : l.getD c false = true → x sc = .bool false

section
variable {P0 P1 : World → Prop} {z : Bool} {a c sa sc : Nat} {l : Array Bool} {x : Nat → Value} {w w' : World}
theorem OneC.start (n : Nat) (x : Nat → Value) (h : P0 w) : OneC P0 P1 z a c sa sc (Array.replicate n false) x w :=
  ⟨fun _ => h, fun h => (by rw [rep_false] at h; cases h), fun h => (by rw [rep_false] at h; cases h)⟩
theorem OneC.pure (h : OneC P0 P1 z a c sa sc l x w) (i d : Nat) (v : Value) (hi : i < l.size) (hia : a ≠ i ∧ c ≠ i) (hd : sa ≠ d ∧ sc ≠ d) : OneC P0 P1 z a c sa sc (l.setIfInBounds i true) (upd x (some d) v) w := by
  refine ⟨fun e => ?_, fun e => ?_, fun e => ?_⟩
  · rw [set_at _ _ _ hi, if_neg hia.1] at e; exact h.p0 e
  · rw [set_at _ _ _ hi, if_neg hia.1] at e
    rw [upd_ne _ _ hd.1]; exact h.p1 e
  · rw [set_at _ _ _ hi, if_neg hia.2] at e
    rw [upd_ne _ _ hd.2]; exact h.p3 e
theorem OneC.first (h : OneC P0 P1 z a c sa sc l x w) (v : Bool) (hi : a < l.size) (hne : c ≠ a) (hs : sc ≠ sa) (ha : l.getD a false = false) (hc : l.getD c false = false) (hp : P0 w → v = z ∧ P1 w') :
    OneC P0 P1 z a c sa sc (l.setIfInBounds a true) (upd x (some sa) (.bool v)) w' := by
  obtain ⟨rfl, hq⟩ := hp (h.p0 ha)
  refine ⟨fun e => ?_, fun e => ⟨hq, upd_eq _ _ _⟩, fun e => ?_⟩
  · rw [set_at _ _ _ hi, if_pos rfl] at e; cases e
  · rw [set_at _ _ _ hi, if_neg hne, hc] at e; cases e
/-- Another call, that turns nothing which is spoken of. -/
theorem OneC.other (h : OneC P0 P1 z a c sa sc l x w) (i d : Nat) (v : Value) (hi : i < l.size) (hia : a ≠ i ∧ c ≠ i) (hd : sa ≠ d ∧ sc ≠ d) (h0 : P0 w → P0 w') (h1 : P1 w → P1 w') : OneC P0 P1 z a c sa sc (l.setIfInBounds i true) (upd x (some d) v) w' := by
  have g := h.pure i d v hi hia hd
  exact ⟨fun e => h0 (g.p0 e), fun e => ⟨h1 (g.p1 e).1, (g.p1 e).2⟩, g.p3⟩
theorem OneC.third (h : OneC P0 P1 z a c sa sc l x w) (v v1 : Bool) (hi : c < l.size) (hne : a ≠ c) (hs : sa ≠ sc) (ha : l.getD a false = true) (e1 : x sa = .bool v1) (hv : v1 = z → v = false) :
    OneC P0 P1 z a c sa sc (l.setIfInBounds c true) (upd x (some sc) (.bool v)) w := by
  obtain ⟨h1, h2⟩ := h.p1 ha
  rw [e1] at h2
  cases h2
  have := hv rfl
  subst this
  refine ⟨fun e => ?_, fun e => ⟨h1, by rw [upd_ne _ _ hs, e1]⟩, fun e => upd_eq _ _ _⟩
  rw [set_at _ _ _ hi, if_neg hne, ha] at e; cases e
theorem OneC.done (h : OneC P0 P1 z a c sa sc l x w) (hl : ∀ j, l.getD j true = true) (ha : a < l.size) (hc : c < l.size) : P1 w ∧ x sa = .bool z ∧ x sc = .bool false := by
  obtain ⟨h1, h2⟩ := h.p1 (by rw [getD_bool l a ha false true]; exact hl a)
  exact ⟨h1, h2, h.p3 (by rw [getD_bool l c hc false true]; exact hl c)⟩
end

end Go.Proofs.Yteglnlhdgfpglaa
