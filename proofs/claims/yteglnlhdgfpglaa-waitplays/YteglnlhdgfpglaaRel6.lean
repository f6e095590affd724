/-
  A region that draws its order and holds two calls, one behind the other, and a comparison of what they answer; the rest of it only reads. Which of the two was made tells what the world is. Nothing of the translation is named here.
-/
import Derived.Test.YteglnlhdgfpglaaRel5
namespace Go.Proofs.Yteglnlhdgfpglaa
open Go Go.RowKit
set_option linter.unusedVariables false

/-- What is known at any time: ahead of the first call (a), between the two, behind the second one (b); what the comparison (c) answered. -/
structure TwoC (P0 P1 P2 : World → Prop) (z : Bool) (a b c sa sb sc : Nat) (l : Array Bool) (x : Nat → Value) (w : World) : Prop where
  p0 : l.getD a false = false → P0 w
  p1 : l.getD a false = true → l.getD b false = false → P1 w ∧ x sa = .bool z
  p2 : l.getD b false = true → P2 w ∧ x sa = .bool z ∧ x sb = .bool z
  p3 : l.getD c false = true → x sc = .bool false

section
variable {P0 P1 P2 : World → Prop} {z : Bool} {a b c sa sb sc : Nat} {l : Array Bool} {x : Nat → Value} {w w' : World}
theorem rep_false (n j : Nat) : (Array.replicate n false).getD j false = false := by
  rw [Array.getD_eq_getD_getElem?, Array.getElem?_replicate]
  split <;> rfl
theorem TwoC.start (n : Nat) (x : Nat → Value) (h : P0 w) : TwoC P0 P1 P2 z a b c sa sb sc (Array.replicate n false) x w :=
  ⟨fun _ => h, fun h => (by rw [rep_false] at h; cases h), fun h => (by rw [rep_false] at h; cases h), fun h => (by rw [rep_false] at h; cases h)⟩
theorem upd_ne (x : Nat → Value) {d s : Nat} (v : Value) (h : s ≠ d) : upd x (some d) v s = x s := if_neg h
theorem upd_eq (x : Nat → Value) (d : Nat) (v : Value) : upd x (some d) v d = v := if_pos rfl
theorem TwoC.pure (h : TwoC P0 P1 P2 z a b c sa sb sc l x w) (i d : Nat) (v : Value) (hi : i < l.size) (hia : a ≠ i ∧ b ≠ i ∧ c ≠ i) (hd : sa ≠ d ∧ sb ≠ d ∧ sc ≠ d) : TwoC P0 P1 P2 z a b c sa sb sc (l.setIfInBounds i true) (upd x (some d) v) w := by
  refine ⟨fun e => ?_, fun e e' => ?_, fun e => ?_, fun e => ?_⟩
  · rw [set_at _ _ _ hi, if_neg hia.1] at e; exact h.p0 e
  · rw [set_at _ _ _ hi, if_neg hia.1] at e
    rw [set_at _ _ _ hi, if_neg hia.2.1] at e'
    rw [upd_ne _ _ hd.1]; exact h.p1 e e'
  · rw [set_at _ _ _ hi, if_neg hia.2.1] at e
    rw [upd_ne _ _ hd.1, upd_ne _ _ hd.2.1]; exact h.p2 e
  · rw [set_at _ _ _ hi, if_neg hia.2.2] at e
    rw [upd_ne _ _ hd.2.2]; exact h.p3 e
theorem TwoC.first (h : TwoC P0 P1 P2 z a b c sa sb sc l x w) (v : Bool) (hi : a < l.size) (hne : b ≠ a ∧ c ≠ a) (hs : sc ≠ sa) (ha : l.getD a false = false) (hb : l.getD b false = false) (hc : l.getD c false = false) (hp : P0 w → v = z ∧ P1 w') :
    TwoC P0 P1 P2 z a b c sa sb sc (l.setIfInBounds a true) (upd x (some sa) (.bool v)) w' := by
  obtain ⟨rfl, hq⟩ := hp (h.p0 ha)
  refine ⟨fun e => ?_, fun e e' => ⟨hq, upd_eq _ _ _⟩, fun e => ?_, fun e => ?_⟩
  · rw [set_at _ _ _ hi, if_pos rfl] at e; cases e
  · rw [set_at _ _ _ hi, if_neg hne.1, hb] at e; cases e
  · rw [set_at _ _ _ hi, if_neg hne.2, hc] at e; cases e
theorem TwoC.second (h : TwoC P0 P1 P2 z a b c sa sb sc l x w) (v : Bool) (hi : b < l.size) (hne : a ≠ b ∧ c ≠ b) (hs : sa ≠ sb ∧ sc ≠ sb) (ha : l.getD a false = true) (hb : l.getD b false = false) (hc : l.getD c false = false) (hp : P1 w → v = z ∧ P2 w') :
    TwoC P0 P1 P2 z a b c sa sb sc (l.setIfInBounds b true) (upd x (some sb) (.bool v)) w' := by
  obtain ⟨h1, h2⟩ := h.p1 ha hb
  obtain ⟨rfl, hq⟩ := hp h1
  refine ⟨fun e => ?_, fun e e' => ?_, fun e => ⟨hq, by rw [upd_ne _ _ hs.1]; exact h2, upd_eq _ _ _⟩, fun e => ?_⟩
  · rw [set_at _ _ _ hi, if_neg hne.1, ha] at e; cases e
  · rw [set_at _ _ _ hi, if_pos rfl] at e'; cases e'
  · rw [set_at _ _ _ hi, if_neg hne.2, hc] at e; cases e
theorem TwoC.third (h : TwoC P0 P1 P2 z a b c sa sb sc l x w) (v v1 v2 : Bool) (hi : c < l.size) (hne : a ≠ c ∧ b ≠ c) (hs : sa ≠ sc ∧ sb ≠ sc) (ha : l.getD a false = true) (hb : l.getD b false = true) (e1 : x sa = .bool v1) (e2 : x sb = .bool v2) (hv : v1 = v2 → v = false) :
    TwoC P0 P1 P2 z a b c sa sb sc (l.setIfInBounds c true) (upd x (some sc) (.bool v)) w := by
  obtain ⟨h1, h2, h3⟩ := h.p2 hb
  rw [e1] at h2
  rw [e2] at h3
  cases h2
  cases h3
  have := hv rfl
  subst this
  refine ⟨fun e => ?_, fun e e' => ?_, fun e => ⟨h1, by rw [upd_ne _ _ hs.1, e1], by rw [upd_ne _ _ hs.2, e2]⟩, fun e => upd_eq _ _ _⟩
  · rw [set_at _ _ _ hi, if_neg hne.1, ha] at e; cases e
  · rw [set_at _ _ _ hi, if_neg hne.2, hb] at e'; cases e'
theorem TwoC.done (h : TwoC P0 P1 P2 z a b c sa sb sc l x w) (hl : ∀ j, l.getD j true = true) (hb : b < l.size) (hc : c < l.size) : P2 w ∧ x sa = .bool z ∧ x sb = .bool z ∧ x sc = .bool false := by
  obtain ⟨h1, h2, h3⟩ := h.p2 (by rw [getD_bool l b hb false true]; exact hl b)
  exact ⟨h1, h2, h3, h.p3 (by rw [getD_bool l c hc false true]; exact hl c)⟩
variable {P : Program} {ops : Array Oper} {a0 : Act} {C : World → Prop} {G : World → World → Prop} {F : Nat → (Nat → Value) → World → Prop} {I : Array Bool → (Nat → Value) → World → Prop} {R : List (Value → World → Prop)} {i : Nat} {o : Oper} in
theorem stepI3 (j d j' d' j2 d2 : Nat) (ho : ops[i]? = some o) (hd : depsOf .any ops (Array.replicate ops.size false) o = [(j, d), (j', d'), (j2, d2)])
    (h : ∀ w, C w → ∀ x v1 v2 v3, v1 = x d → v2 = x d' → v3 = x d2 → (R.getD j (fun _ _ => True)) v1 w → (R.getD j' (fun _ _ => True)) v2 w → (R.getD j2 (fun _ _ => True)) v3 w → RelStep P ops o (((a0.put (some d) v1).put (some d') v2).put (some d2) v3) w (fun v w' => (R.getD i (fun _ _ => True)) v w' ∧ C w' ∧ G w w' ∧ F i x w' ∧ ∀ l, I l x w → l.size = ops.size → (∀ j o', ops[j]? = some o' → l.getD j true = true → (Array.replicate ops.size false).getD j true = true ∨ ∀ e ∈ o'.after, Region.binds .any e = true → l.getD e.on false = true) → (∀ e ∈ o.after, Region.binds .any e = true → l.getD e.on false = true) → l.getD i true = false → I (l.setIfInBounds i true) (upd x o.dst v) w')) : StepI P ops a0 C G F I R i := by
  intro o' ho' w hC x hx
  obtain rfl := Option.some.inj (ho.symm.trans ho')
  rw [hd] at hx ⊢
  exact h w hC x (x d) (x d') (x d2) rfl rfl rfl (hx _ List.mem_cons_self) (hx _ (List.mem_cons_of_mem _ List.mem_cons_self)) (hx _ (List.mem_cons_of_mem _ (List.mem_cons_of_mem _ List.mem_cons_self)))
/-- What is not done is false. -/
theorem not_done {l : Array Bool} {j : Nat} (hj : j < l.size) (h : ¬ l.getD j true = true) : l.getD j false = false := by
  rw [getD_bool l j hj false true]
  simpa using h
end

end Go.Proofs.Yteglnlhdgfpglaa
