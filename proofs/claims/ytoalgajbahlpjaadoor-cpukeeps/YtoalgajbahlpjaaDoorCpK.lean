/-
  Where two rows of words part, counted; what an instruction turns of a context. No condition.
-/
import Derived.Test.YtoalgajbahlpjaaDoorCp0
namespace Go.Proofs.YtoalgajbahlpjaaDoor
open Go
set_option linter.unusedVariables false
set_option linter.unusedSimpArgs false

/-- In how many places below k two rows part. -/
def parts (f g : List Nat) : Nat → Nat
  | 0 => 0
  | k + 1 => parts f g k + (if f.getD k 0 = g.getD k 0 then 0 else 1)
theorem parts_le (f g : List Nat) (k : Nat) : parts f g k ≤ k := by
  induction k with
  | zero => exact Nat.le_refl _
  | succ k ih => unfold parts; split <;> omega
theorem parts_same (f : List Nat) (k : Nat) : parts f f k = 0 := by
  induction k with
  | zero => rfl
  | succ k ih => unfold parts; rw [ih]; simp
theorem parts_one {f g : List Nat} {a : Nat} (h : ∀ j, f.getD j 0 ≠ g.getD j 0 → j = a) (k : Nat) : parts f g k ≤ (if a < k then 1 else 0) := by
  induction k with
  | zero => exact Nat.le_refl _
  | succ k ih =>
    unfold parts
    by_cases hk : f.getD k 0 = g.getD k 0
    · rw [if_pos hk]
      split at ih <;> split <;> omega
    · have := h k hk
      subst this
      rw [if_neg hk, if_pos (by omega)]
      rw [if_neg (by omega)] at ih
      omega
theorem set_parts {l : List Nat} {a v j : Nat} (h : (l.set a v).getD j 0 ≠ l.getD j 0) : j = a := by
  refine Decidable.byContradiction fun hne => h ?_
  simp only [List.getD_eq_getElem?_getD]
  rw [List.getElem?_set_ne (Ne.symm hne)]

theorem doC_turns {x : Ctx} {i : Ins} : ((doC x i).mem = x.mem ∧ ((doC x i).regs = x.regs ∨ ∃ v, (0 ≤ i.a ∧ i.a < 8) ∧ (doC x i).regs = x.regs.set i.a.toNat v)) ∨ ((doC x i).regs = x.regs ∧ i.op = 16 ∧ ∃ j v, (doC x i).mem = x.mem.set j v) := by
  unfold doC
  split
  · exact .inl ⟨rfl, .inl rfl⟩
  rename_i hp
  have hp : plainB i = true := by simpa using hp
  obtain ⟨-, -, ha, -⟩ := plain_ok hp
  split
  · exact .inl ⟨rfl, .inl rfl⟩
  split
  · unfold doM
    split
    · rename_i hb
      unfold accC
      split
      · split
        · exact .inl ⟨rfl, .inr ⟨_, ha, rfl⟩⟩
        · rename_i h15
          refine .inr ⟨rfl, ?_, _, _, rfl⟩
          simp only [accB, Bool.or_eq_true, decide_eq_true_eq] at hb
          omega
      · exact .inl ⟨rfl, .inl rfl⟩
    split
    · exact .inl ⟨rfl, .inl rfl⟩
    · unfold recC
      split
      · exact .inl ⟨rfl, .inl rfl⟩
      · exact .inl ⟨rfl, .inr ⟨_, ha, rfl⟩⟩
  · exact .inl ⟨rfl, .inl rfl⟩
theorem doC_reg {x : Ctx} {i : Ins} (j : Nat) (h : (doC x i).regs.getD j 0 ≠ x.regs.getD j 0) : (j : Int) = i.a := by
  rcases doC_turns (x := x) (i := i) with ⟨-, h1 | ⟨v, ha, h1⟩⟩ | ⟨h1, -⟩
  · rw [h1] at h; exact absurd rfl h
  · rw [h1] at h
    have := set_parts h
    omega
  · rw [h1] at h; exact absurd rfl h
theorem doC_parts (x : Ctx) (i : Ins) (m n : Nat) : parts (doC x i).regs x.regs m + parts (doC x i).mem x.mem n ≤ 1 ∧ (parts (doC x i).mem x.mem n = 0 ∨ i.op = 16) := by
  rcases doC_turns (x := x) (i := i) with ⟨h0, h1 | ⟨v, ha, h1⟩⟩ | ⟨h1, ho, j, v, h2⟩
  · rw [h0, h1, parts_same, parts_same]; exact ⟨by omega, .inl rfl⟩
  · rw [h0, h1, parts_same]
    have := parts_one (fun j h => set_parts (l := x.regs) (a := i.a.toNat) (v := v) (j := j) h) m
    refine ⟨?_, .inl rfl⟩
    split at this <;> omega
  · rw [h1, h2, parts_same]
    have := parts_one (fun k h => set_parts (l := x.mem) (a := j) (v := v) (j := k) h) n
    refine ⟨?_, .inr ho⟩
    split at this <;> omega

end Go.Proofs.YtoalgajbahlpjaaDoor
