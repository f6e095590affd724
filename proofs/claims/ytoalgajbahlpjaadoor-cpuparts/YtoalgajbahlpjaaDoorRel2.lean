/-
  A region that draws its order and writes, by what its values are alone: each operation by itself, in every world of a class. Nothing of the translation is named here.
-/
import Derived.Test.YtoalgajbahlpjaaDoorRel
namespace Go.Proofs.YtoalgajbahlpjaaDoor
open Go Go.RowKit
set_option linter.unusedVariables false

/-- What is known of a value: it is this one, or nothing. -/
def vsat : Option Value → Value → Prop
  | some u, v => v = u
  | none, _ => True

/-- What one operation owes: its value, the class of the world, and what it does to the world for good. -/
def StepV (P : Program) (ops : Array Oper) (a0 : Act) (C : World → Prop) (G : World → World → Prop) (F : Nat → World → Prop) (specs : List (Option Value)) (i : Nat) : Prop :=
  ∀ o, ops[i]? = some o → ∀ w, C w → ∀ x : Nat → Value, (∀ p ∈ depsOf .any ops (Array.replicate ops.size false) o, vsat (specs.getD p.1 none) (x p.2)) →
    RelStep P ops o (putAll a0 (depsOf .any ops (Array.replicate ops.size false) o) x) w (fun v w' => vsat (specs.getD i none) v ∧ C w' ∧ G w w' ∧ F i w')

section
variable {P : Program} {ops : Array Oper} {a0 : Act} {C : World → Prop} {G : World → World → Prop} {F : Nat → World → Prop} {specs : List (Option Value)} {i : Nat} {o : Oper}
theorem stepV0 (ho : ops[i]? = some o) (hd : depsOf .any ops (Array.replicate ops.size false) o = [])
    (h : ∀ w, C w → RelStep P ops o a0 w (fun v w' => vsat (specs.getD i none) v ∧ C w' ∧ G w w' ∧ F i w')) : StepV P ops a0 C G F specs i := by
  intro o' ho' w hC x hx
  obtain rfl := Option.some.inj (ho.symm.trans ho')
  rw [hd] at hx ⊢
  exact h w hC
theorem stepV1 (j d : Nat) (ho : ops[i]? = some o) (hd : depsOf .any ops (Array.replicate ops.size false) o = [(j, d)])
    (h : ∀ w, C w → ∀ v1, vsat (specs.getD j none) v1 → RelStep P ops o (a0.put (some d) v1) w (fun v w' => vsat (specs.getD i none) v ∧ C w' ∧ G w w' ∧ F i w')) : StepV P ops a0 C G F specs i := by
  intro o' ho' w hC x hx
  obtain rfl := Option.some.inj (ho.symm.trans ho')
  rw [hd] at hx ⊢
  exact h w hC (x d) (hx _ List.mem_cons_self)
theorem stepV2 (j d j' d' : Nat) (ho : ops[i]? = some o) (hd : depsOf .any ops (Array.replicate ops.size false) o = [(j, d), (j', d')])
    (h : ∀ w, C w → ∀ v1 v2, vsat (specs.getD j none) v1 → vsat (specs.getD j' none) v2 → RelStep P ops o ((a0.put (some d) v1).put (some d') v2) w (fun v w' => vsat (specs.getD i none) v ∧ C w' ∧ G w w' ∧ F i w')) : StepV P ops a0 C G F specs i := by
  intro o' ho' w hC x hx
  obtain rfl := Option.some.inj (ho.symm.trans ho')
  rw [hd] at hx ⊢
  exact h w hC (x d) (x d') (hx _ List.mem_cons_self) (hx _ (List.mem_cons_of_mem _ List.mem_cons_self))
theorem stepV3 (j d j' d' k e : Nat) (ho : ops[i]? = some o) (hd : depsOf .any ops (Array.replicate ops.size false) o = [(j, d), (j', d'), (k, e)])
    (h : ∀ w, C w → ∀ v1 v2 v3, vsat (specs.getD j none) v1 → vsat (specs.getD j' none) v2 → vsat (specs.getD k none) v3 → RelStep P ops o (((a0.put (some d) v1).put (some d') v2).put (some e) v3) w (fun v w' => vsat (specs.getD i none) v ∧ C w' ∧ G w w' ∧ F i w')) : StepV P ops a0 C G F specs i := by
  intro o' ho' w hC x hx
  obtain rfl := Option.some.inj (ho.symm.trans ho')
  rw [hd] at hx ⊢
  exact h w hC (x d) (x d') (x e) (hx _ List.mem_cons_self) (hx _ (List.mem_cons_of_mem _ List.mem_cons_self)) (hx _ (List.mem_cons_of_mem _ (List.mem_cons_of_mem _ List.mem_cons_self)))

def StepsV (P : Program) (ops : Array Oper) (a0 : Act) (C : World → Prop) (G : World → World → Prop) (F : Nat → World → Prop) (specs : List (Option Value)) (n : Nat) : Prop := ∀ i, i < n → StepV P ops a0 C G F specs i
theorem stepsV_zero : StepsV P ops a0 C G F specs 0 := fun i hi => by omega
theorem stepsV_succ {n : Nat} (h : StepV P ops a0 C G F specs n) (t : StepsV P ops a0 C G F specs n) : StepsV P ops a0 C G F specs (n + 1) := fun i hi => by
  by_cases e : i = n
  · subst e; exact h
  · exact t i (by omega)
end

/-- The law. -/
theorem wp_region_vals {P : Program} {ops : Array Oper} {Q : Exit → Act → World → Prop} {a0 : Act} {id : Nat} {w : World} (specs : List (Option Value)) (C : World → Prop) (G : World → World → Prop) (F : Nat → World → Prop) (rest : List (Nat × Nat)) (n : Nat) (hm : P.follows .mixedOrders = true) (hn : ops.size = n)
    (chk : relB .any ops (Array.replicate ops.size false) a0.tmps.size ops.size = true) (hr : restOf ops (Array.replicate ops.size false) = rest) (hC : C w.drew) (hF : ∀ i w w', C w → G w w' → F i w → F i w')
    (hs : StepsV P ops a0 C G F specs n)
    (hf : ∀ w', C w' → ∀ x : Nat → Value, (∀ p ∈ rest, vsat (specs.getD p.1 none) (x p.2)) → (∀ j, j < n → F j w') → Q .normal (putAll a0 rest x) w') : (Code.region id ops true).wp P Q a0 w := by
  refine wp_region_any hm ?_
  refine wpAny_rel_eff (md := .any) C G (fun i v w => vsat (specs.getD i none) v) F chk hC (fun i v w w' _ hg h => h) hF ?_ ?_
  · intro i o ho _ w hC x hx
    refine hs i ?_ o ho w hC x hx
    rw [← hn]
    rcases Nat.lt_or_ge i ops.size with h | h
    · exact h
    · rw [Array.getElem?_eq_none h] at ho; cases ho
  · intro w' hC x hx hf'
    rw [hr] at hx ⊢
    refine hf w' hC x hx (fun j hj => hf' j (by omega) ?_)
    rw [Array.getD_eq_getD_getElem?, Array.getElem?_eq_getElem (by simp; omega)]
    simp

end Go.Proofs.YtoalgajbahlpjaaDoor
