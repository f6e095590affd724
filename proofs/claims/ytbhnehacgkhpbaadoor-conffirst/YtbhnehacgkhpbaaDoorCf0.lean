/-
  The mathematics of conf, over plain numbers: what is wrong with a system first, and where; that what stands behind the place plays no part, and that less of a system that may run may run. No condition.
-/
import Derived.Test.YtbhnehacgkhpbaaDoorIs0
namespace Go.Proofs.YtbhnehacgkhpbaaDoor
open Go
set_option linter.unusedVariables false
set_option linter.unusedSimpArgs false

/-- Are two things one? -/
noncomputable def eqB {α : Type} (a b : α) : Bool := @decide (a = b) (Classical.propDecidable _)
theorem eqB_of {α : Type} {a b : α} (h : a = b) : eqB a b = true := by unfold eqB; simp [h]
theorem eqB_ne {α : Type} {a b : α} (h : a ≠ b) : eqB a b = false := by unfold eqB; simp [h]
theorem eqB_iff {α : Type} {a b : α} : eqB a b = true ↔ a = b := by unfold eqB; simp
theorem eqB_comm {α : Type} (a b : α) : eqB a b = eqB b a := by
  by_cases h : a = b
  · rw [h]
  · rw [eqB_ne h, eqB_ne (fun e => h e.symm)]
theorem eqB_refl {α : Type} (a : α) : eqB a a = true := eqB_of rfl

/-- A task, a line, a system. -/
structure Tsk where
  lv : Int
  ot : Int
  pd : Int
  dl : Int
  mm : Int
  code : List Ins
structure Lin where
  mm : Int
  code : List Ins
structure Cfg where
  tasks : List Tsk
  lines : List Lin
  mtx : Int
  sems : List Int
  queues : List Int
  timers : List Int
  table : Int
  mask : Nat
  filter : Nat
  charge : Int
  cycle : Nat
  count : Nat

/-- The first that is wrong of a list: the error, which one, the place there. -/
def firstE {α : Type} (f : α → Int × Int) : Nat → List α → Int × Int × Int
  | _, [] => (0, 0, 0)
  | i, x :: r => if (f x).1 = 0 then firstE f (i + 1) r else ((f x).1, (i : Int), (f x).2)

theorem firstE_ok {α : Type} {f : α → Int × Int} : ∀ (l : List α) (i : Nat), (∀ x ∈ l, (f x).1 = 0) → firstE f i l = (0, 0, 0)
  | [], _, _ => rfl
  | x :: r, i, h => by
    unfold firstE
    rw [if_pos (h x List.mem_cons_self)]
    exact firstE_ok r (i + 1) (fun y hy => h y (List.mem_cons_of_mem _ hy))
theorem firstE_hit {α : Type} {f : α → Int × Int} : ∀ (l : List α) (i k : Nat) (hk : k < l.length), (∀ j (hj : j < k), (f (l[j]'(by omega))).1 = 0) → (f l[k]).1 ≠ 0 → firstE f i l = ((f l[k]).1, ((i + k : Nat) : Int), (f l[k]).2)
  | x :: r, i, 0, _, _, hn => by
    have hn' : ¬ (f x).1 = 0 := hn
    unfold firstE
    rw [if_neg hn']
    rfl
  | x :: r, i, k + 1, hk, h, hn => by
    have h0 : (f x).1 = 0 := h 0 (by omega)
    unfold firstE
    rw [if_pos h0, firstE_hit r (i + 1) k (by simpa using hk) (fun j hj => h (j + 1) (by omega)) hn]
    simp only [List.getElem_cons_succ]
    rw [show i + 1 + k = i + (k + 1) by omega]
theorem firstE_all {α : Type} {f : α → Int × Int} : ∀ (l : List α) (i : Nat), (firstE f i l).1 = 0 → ∀ x ∈ l, (f x).1 = 0
  | x :: r, i, h, y, hy => by
    unfold firstE at h
    by_cases hx : (f x).1 = 0
    · rw [if_pos hx] at h
      rcases List.mem_cons.1 hy with rfl | hy
      · exact hx
      · exact firstE_all r (i + 1) h y hy
    · rw [if_neg hx] at h
      exact absurd h hx
/-- Not beyond so many. -/
def eachE {α : Type} (most : Nat) (f : α → Int × Int) (l : List α) : Int × Int × Int := if most < l.length then (4, 0, 0) else firstE f 0 l
theorem eachE_ok {α : Type} {most : Nat} {f : α → Int × Int} {l : List α} (h : (eachE most f l).1 = 0) : l.length ≤ most ∧ (∀ x ∈ l, (f x).1 = 0) := by
  unfold eachE at h
  split at h
  · simp at h
  · exact ⟨by omega, firstE_all _ _ h⟩
theorem eachE_of {α : Type} {most : Nat} {f : α → Int × Int} {l : List α} (h1 : l.length ≤ most) (h2 : ∀ x ∈ l, (f x).1 = 0) : eachE most f l = (0, 0, 0) := by
  unfold eachE
  rw [if_neg (by omega), firstE_ok l 0 h2]

def rangeE (n lo hi : Int) : Int := if n < lo ∨ hi < n then 5 else 0
theorem rangeE_ok {n lo hi : Int} (h1 : lo ≤ n) (h2 : n ≤ hi) : rangeE n lo hi = 0 := by unfold rangeE; rw [if_neg (by omega)]
theorem rangeE_lo {n lo hi : Int} (h1 : n < lo) : rangeE n lo hi = 5 := by unfold rangeE; rw [if_pos (.inl h1)]
theorem rangeE_hi {n lo hi : Int} (h1 : hi < n) : rangeE n lo hi = 5 := by unfold rangeE; rw [if_pos (.inr h1)]
/-- Of a program: the error, and the place behind that of its length. -/
def codeP (isr : Bool) (l : List Ins) : Int × Int :=
  if 256 < l.length then (4, 0) else
    if (firstE (fun x => (checkI x l.length isr, 0)) 0 l).1 = 0 then (0, 0) else ((firstE (fun x => (checkI x l.length isr, 0)) 0 l).1, 1 + (firstE (fun x => (checkI x l.length isr, 0)) 0 l).2.1)
def codeE (first : Int) (isr : Bool) (l : List Ins) : Int × Int := if (codeP isr l).1 = 0 then (0, 0) else ((codeP isr l).1, first + (codeP isr l).2)
theorem codeP_long {isr : Bool} {l : List Ins} (h : 256 < l.length) : codeP isr l = (4, 0) := by unfold codeP; rw [if_pos h]
theorem codeP_ok {isr : Bool} {l : List Ins} (h : l.length ≤ 256) (h2 : ∀ x ∈ l, checkI x l.length isr = 0) : codeP isr l = (0, 0) := by
  unfold codeP
  rw [if_neg (by omega), firstE_ok l 0 (by simpa using h2), if_pos rfl]
theorem codeP_hit {isr : Bool} {l : List Ins} (h : l.length ≤ 256) (k : Nat) (hk : k < l.length) (h1 : ∀ j (hj : j < k), checkI (l[j]'(by omega)) l.length isr = 0) (h2 : checkI l[k] l.length isr ≠ 0) :
    codeP isr l = (checkI l[k] l.length isr, 1 + (k : Int)) := by
  unfold codeP
  rw [if_neg (by omega), firstE_hit l 0 k hk (by simpa using h1) (by simpa using h2)]
  simp only [Nat.zero_add]
  rw [if_neg h2]
theorem codeE_long {first : Int} {isr : Bool} {l : List Ins} (h : 256 < l.length) : codeE first isr l = (4, first) := by unfold codeE; rw [codeP_long h]; simp
theorem codeE_ok {first : Int} {isr : Bool} {l : List Ins} (h : l.length ≤ 256) (h2 : ∀ x ∈ l, checkI x l.length isr = 0) : codeE first isr l = (0, 0) := by unfold codeE; rw [codeP_ok h h2]; simp
theorem codeE_hit {first : Int} {isr : Bool} {l : List Ins} (h : l.length ≤ 256) (k : Nat) (hk : k < l.length) (h1 : ∀ j (hj : j < k), checkI (l[j]'(by omega)) l.length isr = 0) (h2 : checkI l[k] l.length isr ≠ 0) :
    codeE first isr l = (checkI l[k] l.length isr, first + (1 + (k : Int))) := by unfold codeE; rw [codeP_hit h k hk h1 h2]; simp [h2]
theorem firstE_idx {α : Type} {f : α → Int × Int} : ∀ (l : List α) (i : Nat), 0 ≤ (firstE f i l).2.1 ∧ (firstE f i l).2.1 ≤ i + l.length
  | [], i => by unfold firstE; simp
  | x :: r, i => by
    unfold firstE
    split
    · have := firstE_idx (f := f) r (i + 1)
      simp only [List.length_cons]
      omega
    · simp only [List.length_cons]
      omega
theorem codeP_bounds (isr : Bool) (l : List Ins) : 0 ≤ (codeP isr l).2 ∧ (codeP isr l).2 ≤ 257 := by
  unfold codeP
  split
  · decide
  · have := firstE_idx (f := fun x : Ins => (checkI x l.length isr, (0 : Int))) l 0
    split
    · decide
    · simp only
      omega
theorem codeP_first {first : Int} {isr : Bool} {l : List Ins} (h : (codeP isr l).1 = 0) : codeE first isr l = (0, 0) := by unfold codeE; rw [if_pos h]
theorem codeP_then {first : Int} {isr : Bool} {l : List Ins} (h : (codeP isr l).1 ≠ 0) : codeE first isr l = ((codeP isr l).1, first + (codeP isr l).2) := by unfold codeE; rw [if_neg h]

def taskE (t : Tsk) : Int × Int :=
  if rangeE t.lv 0 31 ≠ 0 then (5, 1) else if rangeE t.ot 1 1073741824 ≠ 0 then (5, 2) else if rangeE t.pd 0 1073741824 ≠ 0 then (5, 3)
  else if rangeE t.dl 0 1073741824 ≠ 0 then (5, 4) else if rangeE t.mm 0 256 ≠ 0 then (5, 5) else codeE 6 false t.code
def lineE (l : Lin) : Int × Int := if rangeE l.mm 0 256 ≠ 0 then (5, 1) else codeE 2 true l.code
def numE (lo hi : Int) (n : Int) : Int × Int := (rangeE n lo hi, 1)
def maskE (m n : Nat) : Int := if m / 2 ^ n = 0 then 0 else 5

/-- What is wrong in a part first: the error, which one, the place there. -/
def partE (c : Cfg) : Nat → Int × Int × Int
  | 1 => eachE 64 taskE c.tasks
  | 2 => eachE 16 lineE c.lines
  | 3 => (rangeE c.mtx 0 32, 0, 0)
  | 4 => eachE 32 (numE 0 255) c.sems
  | 5 => eachE 32 (numE 1 64) c.queues
  | 6 => eachE 32 (numE 0 ((c.sems.length : Int) - 1)) c.timers
  | 7 => (rangeE c.table 0 64, 0, 0)
  | 8 => (maskE c.mask c.lines.length, 0, 0)
  | _ => (rangeE c.charge 0 64, 0, 0)
/-- From a part on. -/
def fromP (g : Nat → Int × Int × Int) : Nat → Nat → Int × Int × Int × Int
  | 0, _ => (0, 0, 0, 0)
  | n + 1, p => if (g p).1 = 0 then fromP g n (p + 1) else ((g p).1, (p : Int), (g p).2.1, (g p).2.2)
def checkC (c : Cfg) : Int × Int × Int × Int := fromP (partE c) 9 1

theorem fromP_ok {g : Nat → Int × Int × Int} : ∀ (n p : Nat), (∀ q, p ≤ q → q < p + n → (g q).1 = 0) → fromP g n p = (0, 0, 0, 0)
  | 0, _, _ => rfl
  | n + 1, p, h => by
    unfold fromP
    rw [if_pos (h p (Nat.le_refl _) (by omega))]
    exact fromP_ok n (p + 1) (fun q h1 h2 => h q (by omega) (by omega))
theorem fromP_hit {g : Nat → Int × Int × Int} : ∀ (n p k : Nat), k < n → (∀ q, p ≤ q → q < p + k → (g q).1 = 0) → (g (p + k)).1 ≠ 0 → fromP g n p = ((g (p + k)).1, ((p + k : Nat) : Int), (g (p + k)).2.1, (g (p + k)).2.2)
  | n + 1, p, 0, _, _, hn => by
    have hn' : ¬ (g p).1 = 0 := hn
    unfold fromP
    rw [if_neg hn']
    rfl
  | n + 1, p, k + 1, hk, h, hn => by
    unfold fromP
    rw [if_pos (h p (Nat.le_refl _) (by omega)), fromP_hit n (p + 1) k (by omega) (fun q h1 h2 => h q (by omega) (by omega)) (by rw [show p + 1 + k = p + (k + 1) by omega]; exact hn)]
    rw [show p + 1 + k = p + (k + 1) by omega]
theorem fromP_case (g : Nat → Int × Int × Int) (n p : Nat) : (∀ q, p ≤ q → q < p + n → (g q).1 = 0) ∨ ∃ k, k < n ∧ (∀ q, p ≤ q → q < p + k → (g q).1 = 0) ∧ (g (p + k)).1 ≠ 0 := by
  induction n generalizing p with
  | zero => left; intro q h1 h2; omega
  | succ n ih =>
    by_cases hp : (g p).1 = 0
    · rcases ih (p + 1) with h | ⟨k, h1, h2, h3⟩
      · left
        intro q h1 h2
        by_cases hq : q = p
        · rw [hq]; exact hp
        · exact h q (by omega) (by omega)
      · refine .inr ⟨k + 1, by omega, fun q g1 g2 => ?_, by rw [show p + (k + 1) = p + 1 + k by omega]; exact h3⟩
        by_cases hq : q = p
        · rw [hq]; exact hp
        · exact h2 q (by omega) (by omega)
    · exact .inr ⟨0, by omega, fun q g1 g2 => by omega, hp⟩

theorem checkC_ok {c : Cfg} (h : ∀ q, 1 ≤ q → q < 10 → (partE c q).1 = 0) : checkC c = (0, 0, 0, 0) := fromP_ok 9 1 h
theorem checkC_hit {c : Cfg} (p : Nat) (h1 : 1 ≤ p) (h2 : p ≤ 9) (h : ∀ q, 1 ≤ q → q < p → (partE c q).1 = 0) (hn : (partE c p).1 ≠ 0) : checkC c = ((partE c p).1, (p : Int), (partE c p).2.1, (partE c p).2.2) := by
  have := fromP_hit (g := partE c) 9 1 (p - 1) (by omega) (fun q g1 g2 => h q g1 (by omega)) (by rw [show 1 + (p - 1) = p by omega]; exact hn)
  rw [show 1 + (p - 1) = p by omega] at this
  exact this
theorem checkC_zero {c : Cfg} (h : (checkC c).1 = 0) : (∀ q, 1 ≤ q → q < 10 → (partE c q).1 = 0) ∧ checkC c = (0, 0, 0, 0) := by
  rcases fromP_case (partE c) 9 1 with h' | ⟨k, h1, h2, h3⟩
  · exact ⟨h', checkC_ok h'⟩
  · exfalso
    rw [checkC_hit (1 + k) (by omega) (by omega) (fun q g1 g2 => h2 q g1 g2) h3] at h
    exact h3 h

/-! ### What stands behind the place plays no part -/

/-- The parts behind a place made right. -/
def tidyC (c : Cfg) (p : Int) : Cfg where
  tasks := c.tasks
  lines := if p < 2 then [] else c.lines
  mtx := if p < 3 then 0 else c.mtx
  sems := if p < 4 then [] else c.sems
  queues := if p < 5 then [] else c.queues
  timers := if p < 6 then [] else c.timers
  table := if p < 7 then 0 else c.table
  mask := if p < 8 then 0 else c.mask
  filter := c.filter
  charge := if p < 9 then 0 else c.charge
  cycle := c.cycle
  count := c.count

theorem nine {q : Nat} (h1 : 1 ≤ q) (h2 : q < 10) : q = 1 ∨ q = 2 ∨ q = 3 ∨ q = 4 ∨ q = 5 ∨ q = 6 ∨ q = 7 ∨ q = 8 ∨ q = 9 := by omega
theorem eachE_nil {α : Type} (most : Nat) (f : α → Int × Int) : eachE most f [] = (0, 0, 0) := by unfold eachE; simp [firstE]
theorem tidy_same (c : Cfg) (p : Nat) (q : Nat) (h1 : 1 ≤ q) (h2 : q ≤ p) (h3 : p ≤ 9) : partE (tidyC c p) q = partE c q := by
  have e : ∀ k : Int, k ≤ q → ¬ (p : Int) < k := by intro k hk; omega
  rcases nine h1 (by omega) with rfl | rfl | rfl | rfl | rfl | rfl | rfl | rfl | rfl <;> simp only [partE, tidyC]
  · rw [if_neg (e 2 (by omega))]
  · rw [if_neg (e 3 (by omega))]
  · rw [if_neg (e 4 (by omega))]
  · rw [if_neg (e 5 (by omega))]
  · rw [if_neg (e 6 (by omega)), if_neg (e 4 (by omega))]
  · rw [if_neg (e 7 (by omega))]
  · rw [if_neg (e 8 (by omega)), if_neg (e 2 (by omega))]
  · rw [if_neg (e 9 (by omega))]
theorem tidy_none (c : Cfg) (p : Nat) (q : Nat) (h1 : p < q) (h2 : q ≤ 9) (h3 : 1 ≤ q) (h1' : q ≠ 1) : (partE (tidyC c p) q).1 = 0 := by
  have e : ∀ k : Int, (q : Int) ≤ k → (p : Int) < k := by intro k hk; omega
  have r0 : ∀ hi : Int, 0 ≤ hi → rangeE 0 0 hi = 0 := fun hi h => rangeE_ok (Int.le_refl _) h
  have m0 : ∀ n, maskE 0 n = 0 := fun n => by unfold maskE; simp
  rcases nine h3 (by omega) with rfl | rfl | rfl | rfl | rfl | rfl | rfl | rfl | rfl <;> simp only [partE, tidyC]
  · exact absurd rfl h1'
  · rw [if_pos (e 2 (by omega)), eachE_nil]
  · rw [if_pos (e 3 (by omega)), r0 _ (by omega)]
  · rw [if_pos (e 4 (by omega)), eachE_nil]
  · rw [if_pos (e 5 (by omega)), eachE_nil]
  · rw [if_pos (e 6 (by omega)), eachE_nil]
  · rw [if_pos (e 7 (by omega)), r0 _ (by omega)]
  · rw [if_pos (e 8 (by omega)), m0]
  · rw [if_pos (e 9 (by omega)), r0 _ (by omega)]
theorem tidy_check (c : Cfg) : checkC (tidyC c (checkC c).2.1) = checkC c := by
  rcases fromP_case (partE c) 9 1 with h' | ⟨k, h1, h2, h3⟩
  · have e := checkC_ok h'
    rw [e]
    apply checkC_ok
    intro q g1 g2
    by_cases hq : q = 1
    · subst hq
      have : partE (tidyC c 0) 1 = partE c 1 := by simp only [partE, tidyC]
      rw [show ((0 : Int), (0 : Int), (0 : Int), (0 : Int)).2.1 = 0 from rfl, this]
      exact h' 1 (by omega) (by omega)
    · exact tidy_none c 0 q (by omega) (by omega) g1 hq
  · have e := checkC_hit (c := c) (1 + k) (by omega) (by omega) (fun q g1 g2 => h2 q g1 g2) h3
    rw [e]
    simp only
    have hs := fun q g1 g2 => tidy_same c (1 + k) q g1 g2 (by omega)
    rw [checkC_hit (1 + k) (by omega) (by omega) (fun q g1 g2 => by rw [hs q g1 (by omega)]; exact h2 q g1 g2) (by rw [hs (1 + k) (by omega) (Nat.le_refl _)]; exact h3), hs (1 + k) (by omega) (Nat.le_refl _)]
theorem checkC_part (c : Cfg) : 0 ≤ (checkC c).2.1 ∧ (checkC c).2.1 ≤ 9 := by
  rcases fromP_case (partE c) 9 1 with h' | ⟨k, h1, h2, h3⟩
  · rw [checkC_ok h']; decide
  · rw [checkC_hit (c := c) (1 + k) (by omega) (by omega) (fun q g1 g2 => h2 q g1 g2) h3]
    simp only
    omega

/-! ### Less of a system that may run -/

/-- Without its last task, and without its last line if the mask lets none through. -/
def fewerC (c : Cfg) : Cfg := { c with tasks := c.tasks.take (c.tasks.length - 1), lines := if c.mask = 0 then c.lines.take (c.lines.length - 1) else c.lines }
theorem eachE_take {α : Type} {most : Nat} {f : α → Int × Int} {l : List α} (h : (eachE most f l).1 = 0) (k : Nat) : (eachE most f (l.take k)).1 = 0 := by
  obtain ⟨h1, h2⟩ := eachE_ok h
  rw [eachE_of (by simp; omega) (fun x hx => h2 x (List.mem_of_mem_take hx))]
theorem fewer_check {c : Cfg} (h : (checkC c).1 = 0) : checkC (fewerC c) = (0, 0, 0, 0) := by
  obtain ⟨h1, -⟩ := checkC_zero h
  apply checkC_ok
  intro q g1 g2
  have hq := h1 q g1 g2
  rcases nine g1 g2 with rfl | rfl | rfl | rfl | rfl | rfl | rfl | rfl | rfl <;> simp only [partE, fewerC] at hq ⊢
  · exact eachE_take hq _
  · split
    · exact eachE_take hq _
    · exact hq
  · exact hq
  · exact hq
  · exact hq
  · exact hq
  · exact hq
  · split
    · rename_i hm; rw [hm]; unfold maskE; simp
    · exact hq
  · exact hq

end Go.Proofs.YtbhnehacgkhpbaaDoor
