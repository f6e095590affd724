/-
  The mathematics of rows of tasks that wait: who is put, taken out, where one stands, whose turn it is by levels; taken by turns, or with one gone. No condition but those that are written.
-/
import Derived.Test.YteglnlhdgfpglaaBase
namespace Go.Proofs.Yteglnlhdgfpglaa
set_option linter.unusedVariables false
set_option linter.unusedSimpArgs false

/-- Whether the task stands in the row. -/
def inW (l : List Nat) (t : Int) : Bool := l.any fun x => (x : Int) == t
/-- Whether it may be put. -/
def addK (l : List Nat) (t : Int) : Bool := decide (0 ≤ t) && decide (t < 64) && !inW l t
def addW (l : List Nat) (t : Int) : List Nat := if addK l t then l ++ [t.toNat] else l
def remW (l : List Nat) (t : Int) : List Nat := l.filter fun x => !((x : Int) == t)
/-- Where it stands; -1: nowhere. -/
def idxW : List Nat → Int → Int
  | [], _ => -1
  | x :: r, t => if (x : Int) = t then 0 else if idxW r t < 0 then -1 else idxW r t + 1
theorem nodup_ltW : ∀ (n : Nat) (l : List Nat), l.Nodup → (∀ x ∈ l, x < n) → l.length ≤ n
  | 0, l, _, h => by
    cases l with
    | nil => exact Nat.le_refl _
    | cons x r => exact absurd (h x (by simp)) (by omega)
  | n + 1, l, nd, h => by
    by_cases hm : n ∈ l
    · have := nodup_ltW n (l.erase n) (nd.erase n) (fun x hx => by
        have h1 := nd.mem_erase_iff.1 hx
        have h2 := h x h1.2
        have : x ≠ n := h1.1
        omega)
      rw [List.length_erase_of_mem hm] at this
      omega
    · have := nodup_ltW n l nd (fun x hx => by
        have h2 := h x hx
        have : x ≠ n := fun e => hm (e ▸ hx)
        omega)
      omega
/-- A row: tasks 0 to 63, none twice. -/
structure RowW (l : List Nat) : Prop where
  nd : l.Nodup
  lt : ∀ x ∈ l, x < 64

theorem inW_iff {l : List Nat} {t : Int} : inW l t = true ↔ ∃ x ∈ l, (x : Int) = t := by simp [inW]
theorem inW_nat {l : List Nat} {t : Nat} : inW l (t : Int) = true ↔ t ∈ l := by
  rw [inW_iff]
  constructor
  · rintro ⟨x, hx, e⟩
    obtain rfl : x = t := by omega
    exact hx
  · exact fun h => ⟨t, h, rfl⟩
theorem inW_app (l m : List Nat) (t : Int) : inW (l ++ m) t = (inW l t || inW m t) := by simp [inW]
theorem inW_rem (l : List Nat) (t : Int) : inW (remW l t) t = false := by
  apply Bool.eq_false_iff.2
  intro h
  obtain ⟨x, hx, e⟩ := inW_iff.1 h
  have := (List.mem_filter.1 hx).2
  simp [e] at this
theorem remW_none {l : List Nat} {t : Int} (h : inW l t = false) : remW l t = l := by
  unfold remW
  apply List.filter_eq_self.2
  intro x hx
  simp only [Bool.not_eq_true', beq_eq_false_iff_ne]
  intro e
  exact absurd (inW_iff.2 ⟨x, hx, e⟩) (by simp [h])
theorem remW_sub (l : List Nat) (t : Int) : (remW l t).Sublist l := List.filter_sublist
theorem remW_app (l m : List Nat) (t : Int) : remW (l ++ m) t = remW l t ++ remW m t := by simp [remW]
theorem remW_cons_ne {x : Nat} {l : List Nat} {t : Int} (h : (x : Int) ≠ t) : remW (x :: l) t = x :: remW l t := by simp [remW, h]
theorem remW_cons_eq {x : Nat} {l : List Nat} {t : Int} (h : (x : Int) = t) : remW (x :: l) t = remW l t := by simp [remW, h]
theorem mem_remW {l : List Nat} {t : Int} {x : Nat} : x ∈ remW l t ↔ x ∈ l ∧ (x : Int) ≠ t := by simp [remW]
theorem RowW.nil : RowW [] := ⟨.nil, fun _ h => by cases h⟩
theorem RowW.add {l : List Nat} (h : RowW l) (t : Int) : RowW (addW l t) := by
  unfold addW
  split
  · rename_i hk
    simp only [addK, Bool.and_eq_true, decide_eq_true_eq, Bool.not_eq_true'] at hk
    obtain ⟨⟨h0, h1⟩, h2⟩ := hk
    refine ⟨?_, fun x hx => ?_⟩
    · rw [List.nodup_append]
      refine ⟨h.nd, by simp, fun a ha b hb => ?_⟩
      obtain rfl := List.mem_singleton.1 hb
      rintro rfl
      exact absurd (inW_iff.2 ⟨t.toNat, ha, Int.toNat_of_nonneg h0⟩) (by simp [h2])
    · rcases List.mem_append.1 hx with hx | hx
      · exact h.lt x hx
      · obtain rfl := List.mem_singleton.1 hx
        omega
  · exact h
theorem RowW.rem {l : List Nat} (h : RowW l) (t : Int) : RowW (remW l t) := ⟨h.nd.sublist (remW_sub l t), fun x hx => h.lt x ((remW_sub l t).mem hx)⟩
/-- A row has 64 tasks at most. -/
theorem RowW.len {l : List Nat} (h : RowW l) : l.length ≤ 64 := by
  exact nodup_ltW 64 _ h.nd h.lt

theorem idxW_ge : ∀ (l : List Nat) (t : Int), -1 ≤ idxW l t
  | [], _ => Int.le_refl _
  | x :: r, t => by
    have := idxW_ge r t
    simp only [idxW]
    split
    · omega
    · split <;> omega
theorem idxW_lt : ∀ (l : List Nat) (t : Int), idxW l t < l.length
  | [], _ => by simp [idxW]
  | x :: r, t => by
    have := idxW_lt r t
    simp only [idxW, List.length_cons]
    split
    · omega
    · split <;> omega
theorem idxW_in : ∀ (l : List Nat) (t : Int), decide (0 ≤ idxW l t) = inW l t
  | [], _ => rfl
  | x :: r, t => by
    have ih := idxW_in r t
    simp only [idxW]
    by_cases hx : (x : Int) = t
    · simp [hx, inW]
    · have e : inW (x :: r) t = inW r t := by simp [inW, hx]
      rw [e, ← ih]
      have := idxW_ge r t
      by_cases h0 : idxW r t < 0
      · have h1 : ¬ (0 ≤ idxW r t) := by omega
        simp [hx, h0, h1]
      · have h1 : 0 ≤ idxW r t := by omega
        have h2 : 0 ≤ idxW r t + 1 := by omega
        simp [hx, h0, h1, h2]
theorem idxW_neg (l : List Nat) (t : Int) : decide (idxW l t < 0) = !inW l t := by
  rw [← idxW_in]
  by_cases h : 0 ≤ idxW l t
  · simp [h]
  · have : idxW l t < 0 := by omega
    simp [this]
/-- The first place at which the task stands. -/
theorem idxW_first (l : List Nat) (t : Int) (i : Nat) (hi : i < l.length) (h1 : ((l[i] : Nat) : Int) = t) (h2 : ∀ j (hj : j < i), ((l[j]'(by omega) : Nat) : Int) ≠ t) : idxW l t = i := by
  induction l generalizing i with
  | nil => exact absurd hi (by simp)
  | cons x r ih =>
    cases i with
    | zero => simp at h1; simp [idxW, h1]
    | succ i =>
      have h0 := h2 0 (by omega)
      have e := ih i (by simpa using hi) (by simpa using h1) (fun j hj => by simpa using h2 (j + 1) (by omega))
      simp only [List.getElem_cons_zero] at h0
      simp only [idxW, if_neg h0, e]
      rw [if_neg (by omega)]
      omega
theorem idxW_no (l : List Nat) (t : Int) (h : ∀ j (hj : j < l.length), ((l[j] : Nat) : Int) ≠ t) : idxW l t = -1 := by
  have hi : inW l t = false := by
    apply Bool.eq_false_iff.2
    intro hc
    obtain ⟨x, hx, e⟩ := inW_iff.1 hc
    obtain ⟨j, hj, rfl⟩ := List.getElem_of_mem hx
    exact h j hj e
  have h1 := idxW_in l t
  rw [hi] at h1
  have h1 : ¬ (0 ≤ idxW l t) := of_decide_eq_false h1
  have := idxW_ge l t
  omega
theorem idxW_app_left : ∀ (l m : List Nat) (t : Int), inW l t = true → idxW (l ++ m) t = idxW l t
  | [], m, t, h => by simp [inW] at h
  | x :: r, m, t, h => by
    by_cases hx : (x : Int) = t
    · simp [idxW, hx]
    · have hr : inW r t = true := by simpa [inW, hx] using h
      simp only [List.cons_append, idxW, if_neg hx, idxW_app_left r m t hr]
theorem idxW_app_right : ∀ (l m : List Nat) (t : Int), inW l t = false → inW m t = true → idxW (l ++ m) t = l.length + idxW m t
  | [], m, t, _, _ => by simp
  | x :: r, m, t, h, h2 => by
    have hx : (x : Int) ≠ t := by
      intro e
      simp [inW, e] at h
    have hr : inW r t = false := by simpa [inW, hx] using h
    have e := idxW_app_right r m t hr h2
    have h3 := idxW_in m t
    rw [h2] at h3
    have h3 := of_decide_eq_true h3
    simp only [List.cons_append, idxW, if_neg hx, e, List.length_cons]
    rw [if_neg (by omega)]
    omega
/-- Of two that stand apart in a row without doubles the front one has the lesser place. -/
theorem idxW_sub {l m : List Nat} (hs : m.Sublist l) (hn : l.Nodup) {a b : Nat} {x y : List Nat} (h : m = x ++ a :: y) (hb : b ∈ y) : idxW l (a : Int) < idxW l (b : Int) := by
  subst h
  have h2 : [a, b].Sublist l := by
    refine List.Sublist.trans ?_ hs
    refine List.Sublist.trans ?_ (List.sublist_append_right x (a :: y))
    exact (List.singleton_sublist.2 hb).cons_cons a
  clear hs hb
  induction l with
  | nil => cases h2
  | cons z r ih =>
    have hn2 := List.nodup_cons.1 hn
    cases h2 with
    | cons _ h3 =>
      have hza : (z : Int) ≠ (a : Int) := by
        intro e
        obtain rfl : z = a := by omega
        exact hn2.1 (h3.mem (by simp))
      have hzb : (z : Int) ≠ (b : Int) := by
        intro e
        obtain rfl : z = b := by omega
        exact hn2.1 (h3.mem (by simp))
      have i1 := ih hn2.2 h3
      have ga : inW r (a : Int) = true := inW_nat.2 (h3.mem (by simp))
      have gb : inW r (b : Int) = true := inW_nat.2 (h3.mem (by simp))
      have ga := of_decide_eq_true ((idxW_in r a).trans ga)
      have gb := of_decide_eq_true ((idxW_in r b).trans gb)
      simp only [idxW, if_neg hza, if_neg hzb]
      rw [if_neg (by omega), if_neg (by omega)]
      omega
    | cons_cons _ h3 =>
      have hb : b ∈ r := List.singleton_sublist.1 h3
      have hzb : (a : Int) ≠ (b : Int) := by
        intro e
        obtain rfl : a = b := by omega
        exact hn2.1 hb
      have gb := of_decide_eq_true ((idxW_in r b).trans (inW_nat.2 hb))
      simp only [idxW, if_neg hzb, if_true]
      rw [if_neg (by omega)]
      omega

/-- More urgent than: it has a level, and the other one has none or a greater one. -/
def ltW (lv : List Int) (s u : Nat) : Prop := s < lv.length ∧ (¬ u < lv.length ∨ lv.getD s 0 < lv.getD u 0)
instance (lv : List Int) (s u : Nat) : Decidable (ltW lv s u) := by unfold ltW; infer_instance
theorem ltW_trans {lv : List Int} {a b c : Nat} (h1 : ltW lv a b) (h2 : ltW lv b c) : ltW lv a c := by
  unfold ltW at *
  obtain ⟨h1, h3⟩ := h1
  obtain ⟨h2, h4⟩ := h2
  refine ⟨h1, ?_⟩
  rcases h4 with h4 | h4
  · exact .inl h4
  · rcases h3 with h3 | h3
    · exact absurd h2 h3
    · exact .inr (by omega)
/-- If not a ahead of b, and c ahead of b, then c is ahead of a. -/
theorem ltW_of {lv : List Int} {a b c : Nat} (h1 : ¬ ltW lv a b) (h2 : ltW lv c b) : ltW lv c a ∨ (¬ ltW lv c a ∧ ¬ ltW lv a c ∧ False) ∨ ltW lv c a := by
  left
  unfold ltW at *
  obtain ⟨h2, h3⟩ := h2
  refine ⟨h2, ?_⟩
  by_cases ha : a < lv.length
  · by_cases hb : b < lv.length
    · right
      rcases h3 with h3 | h3
      · exact absurd hb h3
      · have : ¬ (lv.getD a 0 < lv.getD b 0) := fun h => h1 ⟨ha, .inr h⟩
        omega
    · exact absurd ⟨ha, .inl hb⟩ h1
  · exact .inl ha
theorem ltW_le {lv : List Int} {a b c : Nat} (h1 : ¬ ltW lv a b) (h2 : ltW lv c b) : ltW lv c a := by
  rcases ltW_of h1 h2 with h | h | h
  · exact h
  · exact h.2.2.elim
  · exact h
theorem ltW_irr {lv : List Int} {a : Nat} : ¬ ltW lv a a := by
  unfold ltW
  rintro ⟨h1, h2 | h2⟩
  · exact h2 h1
  · omega
/-- Whose turn it is: those ahead of it in the row are less urgent, those behind it aren't more urgent. -/
def Turn (lv : List Int) (l : List Nat) (t : Nat) : Prop := ∃ a c, l = a ++ t :: c ∧ (∀ s ∈ a, ltW lv t s) ∧ ∀ s ∈ c, ¬ ltW lv s t
theorem Turn.mem {lv : List Int} {l : List Nat} {t : Nat} (h : Turn lv l t) : t ∈ l := by
  obtain ⟨a, c, rfl, -⟩ := h
  simp
theorem Turn.one {lv : List Int} {l : List Nat} {t u : Nat} (h : Turn lv l t) (h2 : Turn lv l u) : t = u := by
  obtain ⟨a, c, e, ha, hc⟩ := h
  obtain ⟨a2, c2, e2, ha2, hc2⟩ := h2
  rw [e] at e2
  rcases List.append_eq_append_iff.1 e2 with ⟨m, h1, h2⟩ | ⟨m, h1, h2⟩
  · cases m with
    | nil => simp at h2; exact h2.1
    | cons x m =>
      simp only [List.cons_append, List.cons.injEq] at h2
      obtain ⟨rfl, h2⟩ := h2
      exact absurd (ha2 t (by rw [h1]; simp)) (hc u (by rw [h2]; simp))
  · cases m with
    | nil => simp at h2; exact h2.1.symm
    | cons x m =>
      simp only [List.cons_append, List.cons.injEq] at h2
      obtain ⟨rfl, h2⟩ := h2
      exact absurd (ha u (by rw [h1]; simp)) (hc2 t (by rw [h2]; simp))
/-- One more behind them. -/
theorem Turn.snoc {lv : List Int} {l : List Nat} {t u : Nat} (h : Turn lv l t) : Turn lv (l ++ [u]) (if ltW lv u t then u else t) := by
  obtain ⟨a, c, rfl, ha, hc⟩ := h
  split
  · rename_i hu
    refine ⟨a ++ t :: c, [], by simp, fun s hs => ?_, fun s hs => by cases hs⟩
    rcases List.mem_append.1 hs with hs | hs
    · exact ltW_trans hu (ha s hs)
    · rcases List.mem_cons.1 hs with rfl | hs
      · exact hu
      · exact ltW_le (hc s hs) hu
  · rename_i hu
    refine ⟨a, c ++ [u], by simp, ha, fun s hs => ?_⟩
    rcases List.mem_append.1 hs with hs | hs
    · exact hc s hs
    · obtain rfl := List.mem_singleton.1 hs
      exact hu
theorem Turn.single (lv : List Int) (t : Nat) : Turn lv [t] t := ⟨[], [], rfl, fun s h => absurd h (by simp), fun s h => absurd h (by simp)⟩
/-- Whose turn it is. -/
def bestW (lv : List Int) : List Nat → Option Nat
  | [] => none
  | x :: r => some (r.foldl (fun b s => if ltW lv s b then s else b) x)
theorem fold_turn (lv : List Int) : ∀ (r l : List Nat) (t : Nat), Turn lv l t → Turn lv (l ++ r) (r.foldl (fun b s => if ltW lv s b then s else b) t)
  | [], l, t, h => by simpa using h
  | x :: r, l, t, h => by
    have := fold_turn lv r (l ++ [x]) _ (h.snoc (u := x))
    simpa using this
theorem best_turn {lv : List Int} {l : List Nat} {t : Nat} (h : bestW lv l = some t) : Turn lv l t := by
  cases l with
  | nil => cases h
  | cons x r =>
    simp only [bestW, Option.some.injEq] at h
    rw [← h]
    exact fold_turn lv r [x] x (Turn.single lv x)
theorem best_of {lv : List Int} {l : List Nat} {t : Nat} (h : Turn lv l t) : bestW lv l = some t := by
  cases hb : bestW lv l with
  | none =>
    cases l with
    | nil => obtain ⟨a, c, e, -⟩ := h; simp at e
    | cons x r => simp [bestW] at hb
  | some u => rw [(best_turn hb).one h]
theorem best_none {lv : List Int} {l : List Nat} : bestW lv l = none ↔ l = [] := by
  cases l <;> simp [bestW]
theorem best_some {lv : List Int} {l : List Nat} (h : l ≠ []) : ∃ t, bestW lv l = some t ∧ t ∈ l := by
  cases hb : bestW lv l with
  | none => exact absurd (best_none.1 hb) h
  | some t => exact ⟨t, rfl, (best_turn hb).mem⟩
/-- One more, as the code may go on. -/
theorem best_snoc (lv : List Int) (l : List Nat) (u : Nat) : bestW lv (l ++ [u]) = some (match bestW lv l with | none => u | some t => if ltW lv u t then u else t) := by
  cases hb : bestW lv l with
  | none => rw [best_none.1 hb]; rfl
  | some t => exact best_of (best_turn hb).snoc
/-- With one gone that isn't it, it is the same one's turn. -/
theorem Turn.gone {lv : List Int} {l : List Nat} {t : Nat} (h : Turn lv l t) (g : Int) (hg : (t : Int) ≠ g) : Turn lv (remW l g) t := by
  obtain ⟨a, c, rfl, ha, hc⟩ := h
  refine ⟨remW a g, remW c g, by rw [remW_app, remW_cons_ne hg], fun s hs => ha s ((remW_sub _ _).mem hs), fun s hs => hc s ((remW_sub _ _).mem hs)⟩
theorem best_gone {lv : List Int} {l : List Nat} {t : Nat} (h : bestW lv l = some t) (g : Int) (hg : (t : Int) ≠ g) : bestW lv (remW l g) = some t := best_of ((best_turn h).gone g hg)
/-- Taken by turns: the next one isn't more urgent than the last one, and of the same urgency only if it came behind it. -/
theorem best_next {lv : List Int} {O l : List Nat} (hs : l.Sublist O) (hn : O.Nodup) {t u : Nat} (h : bestW lv l = some t) (h2 : bestW lv (remW l (t : Int)) = some u) : ¬ ltW lv u t ∧ (ltW lv t u ∨ idxW O (t : Int) < idxW O (u : Int)) := by
  obtain ⟨a, c, e, ha, hc⟩ := best_turn h
  have hm := (best_turn h2).mem
  obtain ⟨hm, hne⟩ := mem_remW.1 hm
  rw [e] at hm
  rcases List.mem_append.1 hm with hm | hm
  · have h3 := ha u hm
    exact ⟨fun h4 => ltW_irr (ltW_trans h3 h4), .inl h3⟩
  · rcases List.mem_cons.1 hm with rfl | hm
    · exact absurd rfl hne
    · exact ⟨hc u hm, .inr (idxW_sub hs hn e hm)⟩
/-- The document's way: the least of those that have a level, else the first. -/
def refB (lv : List Int) : List Nat → Int → Int
  | [], b => b
  | x :: r, b => refB lv r (if x < lv.length ∧ (b < 0 ∨ lv.getD x 0 < lv.getD b.toNat 0) then (x : Int) else b)
def refW (lv : List Int) (l : List Nat) : Int := if refB lv l (-1) < 0 ∧ 0 < l.length then ((l.getD 0 0 : Nat) : Int) else refB lv l (-1)
theorem refB_snoc (lv : List Int) : ∀ (l : List Nat) (u : Nat) (b : Int), refB lv (l ++ [u]) b = (if u < lv.length ∧ (refB lv l b < 0 ∨ lv.getD u 0 < lv.getD (refB lv l b).toNat 0) then (u : Int) else refB lv l b)
  | [], u, b => rfl
  | x :: r, u, b => by
    simp only [List.cons_append, refB]
    exact refB_snoc lv r u _
/-- What it has found so far: none that has a level, or whose turn it is. -/
def RB (lv : List Int) (x : Nat) (r : List Nat) : Prop := (refB lv (x :: r) (-1) = -1 ∧ (∀ s ∈ x :: r, ¬ s < lv.length) ∧ bestW lv (x :: r) = some x) ∨ ∃ t : Nat, refB lv (x :: r) (-1) = (t : Int) ∧ t < lv.length ∧ bestW lv (x :: r) = some t
theorem RB.snoc {lv : List Int} {x : Nat} {r : List Nat} (ih : RB lv x r) (u : Nat) : RB lv x (r ++ [u]) := by
  unfold RB
  rw [← List.cons_append, refB_snoc, best_snoc]
  rcases ih with ⟨h1, h2, h3⟩ | ⟨t, h1, h2, h3⟩
  · rw [h1, h3]
    by_cases hu : u < lv.length
    · have : ltW lv u x := ⟨hu, .inl (h2 x (by simp))⟩
      exact .inr ⟨u, by simp [hu], hu, by simp [this]⟩
    · have : ¬ ltW lv u x := fun h => hu h.1
      refine .inl ⟨by simp [hu], fun s hs => ?_, by simp [this]⟩
      rcases List.mem_append.1 hs with hs | hs
      · exact h2 s hs
      · rw [List.mem_singleton.1 hs]; exact hu
  · rw [h1, h3]
    have ht : ¬ ((t : Int) < 0) := by omega
    by_cases hu : u < lv.length
    · by_cases hl : lv.getD u 0 < lv.getD t 0
      · have : ltW lv u t := ⟨hu, .inr hl⟩
        exact .inr ⟨u, if_pos ⟨hu, .inr (by simpa using hl)⟩, hu, by simp [this]⟩
      · have : ¬ ltW lv u t := fun h => h.2.elim (fun h => h h2) hl
        refine .inr ⟨t, ?_, h2, by simp [this]⟩
        refine if_neg ?_
        rintro ⟨-, h | h⟩
        · omega
        · exact hl (by simpa using h)
    · have : ¬ ltW lv u t := fun h => hu h.1
      exact .inr ⟨t, by simp [hu], h2, by simp [this]⟩
theorem RB.app {lv : List Int} {x : Nat} : ∀ (m r : List Nat), RB lv x r → RB lv x (r ++ m)
  | [], r, h => by simpa using h
  | y :: m, r, h => by simpa using RB.app m (r ++ [y]) (h.snoc y)
theorem refB_all (lv : List Int) (x : Nat) (r : List Nat) : RB lv x r := by
  have h0 : RB lv x [] := by
    by_cases hx : x < lv.length
    · exact .inr ⟨x, by simp [refB, hx], hx, rfl⟩
    · exact .inl ⟨by simp [refB, hx], by simpa using hx, rfl⟩
  simpa using RB.app r [] h0
/-- What is answered: the task, or -1. -/
def turnI (lv : List Int) (l : List Nat) : Int := match bestW lv l with | none => -1 | some t => (t : Int)
theorem refW_eq (lv : List Int) (l : List Nat) : refW lv l = turnI lv l := by
  cases l with
  | nil => rfl
  | cons x r =>
    unfold refW turnI
    rcases refB_all lv x r with ⟨h1, -, h3⟩ | ⟨t, h1, -, h3⟩
    · rw [h1, h3]; simp
    · rw [h1, h3, if_neg (by rintro ⟨h, -⟩; omega)]

end Go.Proofs.Yteglnlhdgfpglaa
