/-
  Hunters: the mathematics, and package hunt (Hu0, HuB, Hu1 to Hu4 in one text). Over this seat's translation.
-/
import Derived.Test.YtobioiicbdhboaaDoorFrZ
import Derived.Laws.IdiomCopy
namespace Go.Proofs.YtobioiicbdhboaaDoor
open Go
set_option linter.unusedVariables false
set_option linter.unusedSimpArgs false

/-! ### More bytes behind -/

theorem septScan_more : ∀ (c : Nat) (L X : List UInt8) (k a : Nat), (septScan k a c L).2.1 ≠ 2 → septScan k a c (L ++ X) = septScan k a c L
  | 0, L, X, k, a, h => by cases L <;> cases X <;> simp [septScan]
  | c + 1, [], X, k, a, h => by simp [septScan] at h
  | c + 1, b :: L, X, k, a, h => by
    simp only [List.cons_append, septScan] at h ⊢
    split
    · rfl
    · rename_i hb; rw [if_neg hb] at h; exact septScan_more c L X _ _ h
theorem septScan_two : ∀ (c : Nat) (L : List UInt8) (k a : Nat), (septScan k a c L).2.1 = 2 → L.length < c
  | 0, L, k, a, h => by cases L <;> simp [septScan] at h
  | c + 1, [], k, a, h => by simp
  | c + 1, b :: L, k, a, h => by
    simp only [septScan] at h
    split at h
    · simp at h
    · have := septScan_two c L _ _ h; simp; omega
theorem septGet_more {L : List UInt8} {c : Nat} (X : List UInt8) (h : (septGet L c).2.1 ≠ 2) : septGet (L ++ X) c = septGet L c := by
  rw [septGet_scan] at h ⊢; rw [septGet_scan]; exact septScan_more c L X 0 0 h
theorem septGet_two {L : List UInt8} {c : Nat} (h : (septGet L c).2.1 = 2) : L.length < c := by
  rw [septGet_scan] at h; exact septScan_two c L 0 0 h
theorem word_more {L : List UInt8} (X : List UInt8) (h : (wordG L).2 ≠ 2) : wordG (L ++ X) = wordG L := by
  by_cases h2 : (septGet L 5).2.1 = 2
  · exact absurd (by unfold wordG; rw [if_neg (by omega)]; exact h2) h
  · unfold wordG; rw [septGet_more X h2]
theorem word_two {L : List UInt8} (h : (wordG L).2 = 2) : L.length < 5 := by
  unfold wordG at h
  split at h
  · split at h <;> simp at h
  · exact septGet_two h
theorem sum_more {L : List UInt8} {v : Nat} (X : List UInt8) (h : sumG L v ≠ 2) : sumG (L ++ X) v = sumG L v := by
  by_cases h2 : (wordG L).2 = 2
  · exact absurd (by unfold sumG; rw [if_neg (by omega)]; exact h2) h
  · unfold sumG; rw [word_more X h2]
theorem sum_two {L : List UInt8} {v : Nat} (h : sumG L v = 2) : L.length < 5 := by
  unfold sumG at h
  split at h
  · split at h <;> simp at h
  · exact word_two h
theorem drop_more {L X : List UInt8} {n : Nat} (h : n ≤ L.length) : (L ++ X).drop n = L.drop n ++ X := List.drop_append_of_le_length h
theorem nums_more {L : List UInt8} (X : List UInt8) (h : (numsG L).2 ≠ 2) : numsG (L ++ X) = numsG L := by
  have hw : (wordG L).2 ≠ 2 := fun e => h (by unfold numsG; rw [if_neg (by omega)]; exact e)
  have e1 := word_more X hw
  unfold numsG at h ⊢
  rw [e1]
  by_cases h1 : (wordG L).2 = 0
  · rw [if_pos h1] at h ⊢
    rw [if_pos h1]
    have l5 := (word_step h1).2.2.2
    rw [drop_more l5]
    have h2' : (septGet (L.drop 5) 10).2.1 ≠ 2 := fun e => h (by rw [if_neg (by omega)]; exact e)
    rw [septGet_more X h2']
    by_cases h2 : (septGet (L.drop 5) 10).2.1 = 0
    · rw [if_pos h2] at h ⊢
      rw [if_pos h2]
      have l15 := (septGet_step h2).2
      rw [List.length_drop] at l15
      rw [drop_more (show 15 ≤ L.length by omega)]
      have h3' : (septGet (L.drop 15) 10).2.1 ≠ 2 := fun e => h (by rw [if_neg (by omega)]; exact e)
      rw [septGet_more X h3']
      by_cases h3 : (septGet (L.drop 15) 10).2.1 = 0
      · rw [if_pos h3] at h ⊢
        rw [if_pos h3]
        have l25 := (septGet_step h3).2
        rw [List.length_drop] at l25
        rw [drop_more (show 25 ≤ L.length by omega)]
        have h4' : (septGet (L.drop 25) 2).2.1 ≠ 2 := fun e => h (by rw [if_neg (by omega)]; exact e)
        rw [septGet_more X h4']
      · rw [if_neg h3, if_neg h3]
    · rw [if_neg h2, if_neg h2]
  · rw [if_neg h1, if_neg h1]
theorem nums_two {L : List UInt8} (h : (numsG L).2 = 2) : L.length < 27 := by
  unfold numsG at h
  split at h
  · split at h
    · split at h
      · split at h
        · split at h <;> simp at h
        · have := septGet_two h; rw [List.length_drop] at this; omega
      · have := septGet_two h; rw [List.length_drop] at this; omega
    · have := septGet_two h; rw [List.length_drop] at this; omega
  · have := word_two h; omega
theorem agr_more : ∀ (L t X : List UInt8), agr L t < L.length ∨ agr L t = t.length → agr (L ++ X) t = agr L t
  | [], t, X, h => by
    cases t with
    | nil => cases X <;> simp [agr]
    | cons => simp [agr] at h
  | a :: L, [], X, h => by simp [agr]
  | a :: L, c :: t, X, h => by
    simp only [List.cons_append, agr] at h ⊢
    split
    · rename_i e
      rw [if_pos e] at h
      rw [agr_more L t X (by simp only [List.length_cons] at h; omega)]
    · rfl
theorem mark_more {L : List UInt8} (X : List UInt8) (h : markG L ≠ 2) : markG (L ++ X) = markG L := by
  have h1 := agr_le L markL
  have h2 : markL.length = 22 := rfl
  unfold markG at h ⊢
  by_cases h3 : agr L markL < 22
  · rw [if_pos h3] at h
    by_cases h4 : agr L markL < L.length
    · rw [agr_more L markL X (.inl h4), if_pos h3, if_pos h3, if_pos h4, if_pos (by rw [List.length_append]; omega)]
    · rw [if_neg h4] at h; exact absurd rfl h
  · rw [agr_more L markL X (.inr (by omega)), if_neg h3, if_neg h3]
theorem mark_two {L : List UInt8} (h : markG L = 2) : L.length < 22 := by
  have h1 := agr_le L markL
  unfold markG at h
  split at h
  · split at h
    · simp at h
    · omega
  · simp at h
theorem head_more {L : List UInt8} (X : List UInt8) (h : (headG L).2 ≠ 2) : headG (L ++ X) = headG L := by
  have hm : markG L ≠ 2 := fun e => h (by unfold headG; rw [if_neg (by omega)]; exact e)
  have e1 := mark_more X hm
  unfold headG at h ⊢
  rw [e1]
  by_cases h1 : markG L = 0
  · rw [if_pos h1] at h ⊢
    rw [if_pos h1]
    have l22 := (mark_step h1).2
    rw [drop_more l22]
    have h2' : (numsG (L.drop 22)).2 ≠ 2 := fun e => h (by rw [if_neg (by omega)]; exact e)
    rw [nums_more X h2']
    by_cases h2 : (numsG (L.drop 22)).2 = 0
    · rw [if_pos h2] at h ⊢
      rw [if_pos h2]
      have l49 := (nums_step h2).2.2.2.2.2.2
      rw [List.length_drop] at l49
      have e3 : ((L ++ X).drop 16).take 33 = (L.drop 16).take 33 := by
        rw [drop_more (show 16 ≤ L.length by omega), List.take_append_of_le_length (by rw [List.length_drop]; omega)]
      rw [drop_more (show 49 ≤ L.length by omega), e3]
      have h3' : sumG (L.drop 49) (sumL ((L.drop 16).take 33)) ≠ 2 := fun e => h (by rw [if_neg (by omega)]; exact e)
      rw [sum_more X h3']
    · rw [if_neg h2, if_neg h2]
  · rw [if_neg h1, if_neg h1]
theorem head_two {L : List UInt8} (h : (headG L).2 = 2) : L.length < 54 := by
  unfold headG at h
  split at h
  · split at h
    · split at h
      · simp at h
      · have := sum_two h; rw [List.length_drop] at this; omega
    · have := nums_two h; rw [List.length_drop] at this; omega
  · have := mark_two h; omega
theorem head_size_le {L : List UInt8} (h : (headG L).2 = 0) : (headG L).1.size ≤ 120 ∧ 1 ≤ (headG L).1.size ∧ 54 ≤ L.length := by
  obtain ⟨h1, h2, h3, h4⟩ := head_step h
  obtain ⟨-, -, -, -, h5, h6, -⟩ := nums_step h2
  have := (sum_step h3).2.2
  rw [List.length_drop] at this
  rw [h4, h6]
  exact ⟨h5.2, h5.1, by omega⟩
theorem pay_more {L : List UInt8} {z : Nat} (X : List UInt8) (h : (payG L z).2 ≠ 2) : payG (L ++ X) z = payG L z := by
  unfold payG at h ⊢
  by_cases h1 : z ≤ L.length
  · rw [if_pos h1] at h ⊢
    rw [if_pos (by rw [List.length_append]; omega), drop_more h1, List.take_append_of_le_length h1]
    have h2 : sumG (L.drop z) (sumL (L.take z)) ≠ 2 := fun e => h (by rw [if_neg (by omega)]; exact e)
    rw [sum_more X h2]
  · rw [if_neg h1] at h; exact absurd rfl h
theorem pay_two {L : List UInt8} {z : Nat} (h : (payG L z).2 = 2) : L.length < z + 5 := by
  unfold payG at h
  split at h
  · split at h
    · simp at h
    · have := sum_two h; rw [List.length_drop] at this; omega
  · omega
theorem frame_more' {L : List UInt8} (X : List UInt8) (h1 : (headG L).2 ≠ 2) (h2 : (headG L).2 = 0 → (payG (L.drop 54) (headG L).1.size).2 ≠ 2) : frameR (L ++ X) = frameR L := by
  unfold frameR
  rw [head_more X h1]
  by_cases h : (headG L).2 = 0
  · rw [if_pos h, if_pos h, drop_more (head_size_le h).2.2, pay_more X (h2 h)]
  · rw [if_neg h, if_neg h]
theorem frame_more {L : List UInt8} (X : List UInt8) (h : (frameR L).2.2.2 ≠ 2) : frameR (L ++ X) = frameR L := by
  refine frame_more' X (fun e => h ?_) (fun h0 e => h ?_)
  · unfold frameR; rw [if_neg (by omega), e]; rfl
  · unfold frameR; rw [if_pos h0, if_neg (by omega), e]; rfl
theorem frame_stuck {L : List UInt8} (X : List UInt8) (h : 179 ≤ L.length) : frameR (L ++ X) = frameR L := by
  refine frame_more' X (fun e => by have := head_two e; omega) (fun h0 e => ?_)
  have := pay_two e
  have := head_size_le h0
  rw [List.length_drop] at *
  omega
theorem frame_nil : (frameR []).2.2.2 = 2 := by decide
theorem frame_len {L : List UInt8} (h : (frameR L).2.2.2 = 0) : (frameR L).2.2.1 ≤ L.length ∧ 60 ≤ (frameR L).2.2.1 ∧ (frameR L).1 < 4294967296 := by
  obtain ⟨cyc, cnt, p, rest, e1, e2, e3, -, -, e6, -⟩ := frame_one (L := L) (q := (frameR L).1) (l := (frameR L).2.1) (n := (frameR L).2.2.1) (by rw [← h])
  refine ⟨?_, by omega, e3⟩
  have := congrArg List.length e1
  rw [List.length_append, frameB_len] at this
  omega
/-- No marker, no frame. -/
theorem frame_unmarked {L : List UInt8} (h : markG L ≠ 0) : (frameR L).2.2.2 ≠ 0 := by
  unfold frameR headG
  rw [if_neg h, if_neg h]
  intro e
  exact h (by simpa using e)
theorem frame_other {b : UInt8} {L : List UInt8} (h : b ≠ 255) : (frameR (b :: L)).2.2.2 = 3 := by
  have ha : agr (b :: L) markL = 0 := by unfold markL; simp [agr, h]
  have hm : markG (b :: L) = 3 := by unfold markG; rw [ha]; simp
  rw [fr_mark (by rw [hm]; decide), hm]
  rfl

/-! ### A hunter -/

/-- What is told. -/
structure It where
  kind : Nat
  seq : Nat
  lost : Nat
  evs : List Ev
/-- A hunter: what it told, the bytes from its place on, the next number, how many bytes it skipped, how many frames are lost. -/
structure HS where
  told : List It
  rest : List UInt8
  next : Nat
  skip : Nat
  lost : Nat
def tells (n q : Nat) (l : List Ev) : List It := (if n < q then [⟨2, n, q - n, []⟩] else []) ++ [⟨1, q, 0, l⟩]
def HS.told1 (s : HS) : HS :=
  ⟨s.told ++ tells s.next (frameR s.rest).1 (frameR s.rest).2.1, s.rest.drop (frameR s.rest).2.2.1, (frameR s.rest).1 + 1, s.skip, s.lost + ((frameR s.rest).1 - s.next)⟩
def HS.skip1 (s : HS) : HS := ⟨s.told, s.rest.drop 1, s.next, s.skip + 1, s.lost⟩
def HS.finds (s : HS) : Prop := (frameR s.rest).2.2.2 = 0 ∧ s.next ≤ (frameR s.rest).1
instance (s : HS) : Decidable s.finds := by unfold HS.finds; infer_instance
def HS.step (cl : Bool) (s : HS) : Option HS :=
  if s.rest = [] then none else if s.finds then some s.told1 else if (frameR s.rest).2.2.2 = 2 ∧ cl = false then none else some s.skip1
def HS.run (cl : Bool) : Nat → HS → HS
  | 0, s => s
  | k + 1, s => match s.step cl with
    | none => s
    | some t => HS.run cl k t
def HS.go (cl : Bool) (s : HS) : HS := s.run cl s.rest.length

theorem HS.step_cases {cl : Bool} {s t : HS} (h : s.step cl = some t) : s.rest ≠ [] ∧ ((s.finds ∧ t = s.told1) ∨ (¬ s.finds ∧ ¬ ((frameR s.rest).2.2.2 = 2 ∧ cl = false) ∧ t = s.skip1)) := by
  unfold HS.step at h
  by_cases h0 : s.rest = []
  · rw [if_pos h0] at h; cases h
  · rw [if_neg h0] at h
    refine ⟨h0, ?_⟩
    by_cases h1 : s.finds
    · rw [if_pos h1] at h; exact .inl ⟨h1, (Option.some.inj h).symm⟩
    · rw [if_neg h1] at h
      by_cases h2 : (frameR s.rest).2.2.2 = 2 ∧ cl = false
      · rw [if_pos h2] at h; cases h
      · rw [if_neg h2] at h; exact .inr ⟨h1, h2, (Option.some.inj h).symm⟩
theorem HS.step_none {cl : Bool} {s : HS} (h : s.step cl = none) : s.rest = [] ∨ ((frameR s.rest).2.2.2 = 2 ∧ cl = false) := by
  unfold HS.step at h
  by_cases h0 : s.rest = []
  · exact .inl h0
  · rw [if_neg h0] at h
    by_cases h1 : s.finds
    · rw [if_pos h1] at h; cases h
    · rw [if_neg h1] at h
      by_cases h2 : (frameR s.rest).2.2.2 = 2 ∧ cl = false
      · exact .inr h2
      · rw [if_neg h2] at h; cases h
theorem HS.step_end {cl : Bool} {s : HS} (h : s.rest = []) : s.step cl = none := by unfold HS.step; rw [if_pos h]
theorem HS.step_waits {s : HS} (h : (frameR s.rest).2.2.2 = 2) : s.step false = none := by
  unfold HS.step
  by_cases h0 : s.rest = []
  · rw [if_pos h0]
  · rw [if_neg h0, if_neg (fun f => by have := f.1; omega), if_pos ⟨h, rfl⟩]
theorem HS.step_finds {cl : Bool} {s : HS} (h : s.finds) : s.step cl = some s.told1 := by
  unfold HS.step
  have h0 : s.rest ≠ [] := fun e => by have := h.1; rw [e, frame_nil] at this; simp at this
  rw [if_neg h0, if_pos h]
theorem HS.step_skips {cl : Bool} {s : HS} (h0 : s.rest ≠ []) (h1 : ¬ s.finds) (h2 : ¬ ((frameR s.rest).2.2.2 = 2 ∧ cl = false)) : s.step cl = some s.skip1 := by
  unfold HS.step
  rw [if_neg h0, if_neg h1, if_neg h2]
theorem HS.step_len {cl : Bool} {s t : HS} (h : s.step cl = some t) : t.rest.length < s.rest.length := by
  obtain ⟨h0, h | h⟩ := HS.step_cases h
  · have := frame_len h.1.1
    rw [h.2]
    show (s.rest.drop _).length < _
    rw [List.length_drop]; omega
  · rw [h.2.2]
    show (s.rest.drop 1).length < _
    have : 0 < s.rest.length := List.length_pos_iff.2 h0
    rw [List.length_drop]; omega
theorem HS.run_enough (cl : Bool) : ∀ (k m : Nat) (s : HS), s.rest.length ≤ k → s.rest.length ≤ m → s.run cl k = s.run cl m
  | 0, m, s, hk, hm => by
    have h0 : s.rest = [] := List.eq_nil_of_length_eq_zero (by omega)
    cases m with
    | zero => rfl
    | succ m => simp only [HS.run, HS.step_end h0]
  | k + 1, 0, s, hk, hm => by
    have h0 : s.rest = [] := List.eq_nil_of_length_eq_zero (by omega)
    simp only [HS.run, HS.step_end h0]
  | k + 1, m + 1, s, hk, hm => by
    simp only [HS.run]
    cases hs : s.step cl with
    | none => rfl
    | some t =>
      have := HS.step_len hs
      exact HS.run_enough cl k m t (by omega) (by omega)
theorem HS.go_none {cl : Bool} {s : HS} (h : s.step cl = none) : s.go cl = s := by
  unfold HS.go
  cases s.rest.length with
  | zero => rfl
  | succ k => simp only [HS.run, h]
theorem HS.go_some {cl : Bool} {s t : HS} (h : s.step cl = some t) : s.go cl = t.go cl := by
  have hl := HS.step_len h
  obtain ⟨k, hk⟩ : ∃ k, s.rest.length = k + 1 := ⟨s.rest.length - 1, by omega⟩
  show s.run cl s.rest.length = _
  rw [hk]
  simp only [HS.run, h]
  exact HS.run_enough cl _ _ _ (by omega) (Nat.le_refl _)
theorem HS.ind (cl : Bool) {P : HS → Prop} (stop : ∀ s, s.step cl = none → P s) (next : ∀ s t, s.step cl = some t → P t → P s) (s : HS) : P s := by
  obtain ⟨n, hn⟩ : ∃ n, s.rest.length ≤ n := ⟨_, Nat.le_refl _⟩
  induction n generalizing s with
  | zero => exact stop s (HS.step_end (List.eq_nil_of_length_eq_zero (by omega)))
  | succ n ih =>
    cases hs : s.step cl with
    | none => exact stop s hs
    | some t => exact next s t hs (ih t (by have := HS.step_len hs; omega))

/-! ### What was told ahead, and more bytes -/

def HS.pre (p : List It) (s : HS) : HS := ⟨p ++ s.told, s.rest, s.next, s.skip, s.lost⟩
theorem HS.step_pre (cl : Bool) (p : List It) (s : HS) : (s.pre p).step cl = (s.step cl).map (HS.pre p) := by
  unfold HS.step
  by_cases h0 : s.rest = []
  · rw [if_pos h0, if_pos (show (s.pre p).rest = [] from h0)]; rfl
  · rw [if_neg h0, if_neg (show ¬ (s.pre p).rest = [] from h0)]
    by_cases h1 : s.finds
    · rw [if_pos h1, if_pos (show (s.pre p).finds from h1)]
      simp only [Option.map_some, Option.some.injEq, HS.told1, HS.pre, List.append_assoc]
    · rw [if_neg h1, if_neg (show ¬ (s.pre p).finds from h1)]
      by_cases h2 : (frameR s.rest).2.2.2 = 2 ∧ cl = false
      · rw [if_pos h2, if_pos (show (frameR (s.pre p).rest).2.2.2 = 2 ∧ cl = false from h2)]; rfl
      · rw [if_neg h2, if_neg (show ¬ ((frameR (s.pre p).rest).2.2.2 = 2 ∧ cl = false) from h2)]; rfl
theorem HS.go_pre (cl : Bool) (p : List It) (s : HS) : (s.pre p).go cl = (s.go cl).pre p := by
  induction s using HS.ind cl with
  | stop s h => rw [HS.go_none h, HS.go_none (by rw [HS.step_pre, h]; rfl)]
  | next s t h ih => rw [HS.go_some h, HS.go_some (show (s.pre p).step cl = some (t.pre p) by rw [HS.step_pre, h]; rfl), ih]
def HS.more (X : List UInt8) (s : HS) : HS := ⟨s.told, s.rest ++ X, s.next, s.skip, s.lost⟩
theorem HS.step_more {s t : HS} (X : List UInt8) (h : s.step false = some t) : (s.more X).step false = some (t.more X) := by
  obtain ⟨h0, h | h⟩ := HS.step_cases h
  · have he := frame_more X (L := s.rest) (by rw [h.1.1]; decide)
    have hl := frame_len h.1.1
    rw [HS.step_finds (s := s.more X) (show (frameR (s.rest ++ X)).2.2.2 = 0 ∧ s.next ≤ (frameR (s.rest ++ X)).1 by rw [he]; exact h.1), h.2]
    simp only [HS.told1, HS.more, he, Option.some.injEq, HS.mk.injEq, true_and, and_true]
    exact drop_more hl.1
  · have h2 : (frameR s.rest).2.2.2 ≠ 2 := fun e => h.2.1 ⟨e, rfl⟩
    have he := frame_more X h2
    have hp : 0 < s.rest.length := List.length_pos_iff.2 h0
    rw [HS.step_skips (s := s.more X) (fun e => h0 (List.append_eq_nil_iff.1 e).1) (show ¬ ((frameR (s.rest ++ X)).2.2.2 = 0 ∧ s.next ≤ (frameR (s.rest ++ X)).1) by rw [he]; exact h.1)
      (show ¬ ((frameR (s.rest ++ X)).2.2.2 = 2 ∧ false = false) by rw [he]; exact h.2.1), h.2.2]
    simp only [HS.skip1, HS.more, Option.some.injEq, HS.mk.injEq, true_and, and_true]
    exact drop_more (by omega)
theorem HS.go_more (X : List UInt8) (s : HS) : ((s.go false).more X).go false = (s.more X).go false := by
  induction s using HS.ind false with
  | stop s h => rw [HS.go_none h]
  | next s t h ih => rw [HS.go_some h, ih, HS.go_some (HS.step_more X h)]
theorem HS.step_close {s t : HS} (h : s.step false = some t) : s.step true = some t := by
  obtain ⟨h0, h | h⟩ := HS.step_cases h
  · rw [HS.step_finds h.1, h.2]
  · rw [HS.step_skips h0 h.1 (fun e => by have := e.2; cases this), h.2.2]
theorem HS.go_close (s : HS) : (s.go false).go true = s.go true := by
  induction s using HS.ind false with
  | stop s h => rw [HS.go_none h]
  | next s t h ih => rw [HS.go_some h, ih, HS.go_some (HS.step_close h)]
theorem HS.go_waits (s : HS) : (s.go false).rest = [] ∨ (frameR (s.go false).rest).2.2.2 = 2 := by
  induction s using HS.ind false with
  | stop s h =>
    rw [HS.go_none h]
    exact (HS.step_none h).imp_right And.left
  | next s t h ih => rw [HS.go_some h]; exact ih
theorem HS.go_all (s : HS) : (s.go true).rest = [] := by
  induction s using HS.ind true with
  | stop s h =>
    rw [HS.go_none h]
    exact (HS.step_none h).elim id (fun e => by cases e.2)
  | next s t h ih => rw [HS.go_some h]; exact ih
theorem HS.go_stuck {s : HS} (h : (frameR s.rest).2.2.2 = 2) (hl : 179 ≤ s.rest.length) (X : List UInt8) : (s.more X).go false = s.more X :=
  HS.go_none (HS.step_waits (by show (frameR (s.rest ++ X)).2.2.2 = 2; rw [frame_stuck X hl, h]))
theorem HS.go_told (cl : Bool) (s : HS) : s.go cl = ((HS.mk [] s.rest s.next s.skip s.lost).go cl).pre s.told := by
  have e : s = (HS.mk [] s.rest s.next s.skip s.lost).pre s.told := by unfold HS.pre; simp
  conv => lhs; rw [e]
  exact HS.go_pre cl s.told _

def hs0 : HS := ⟨[], [], 0, 0, 0⟩

/-- The numbers stay small. -/
theorem HS.go_small (cl : Bool) (s : HS) : s.next ≤ 4294967296 → (s.go cl).next ≤ 4294967296 ∧ (s.go cl).skip ≤ s.skip + s.rest.length ∧ (s.go cl).rest.length ≤ s.rest.length ∧ (s.go cl).lost ≤ s.lost + 4294967296 * s.rest.length ∧ (s.go cl).told.length ≤ s.told.length + 2 * s.rest.length := by
  induction s using HS.ind cl with
  | stop s h => rw [HS.go_none h]; intro h; exact ⟨h, by omega, by omega, by omega, by omega⟩
  | next s t h ih =>
    intro hn
    rw [HS.go_some h]
    have hl := HS.step_len h
    obtain ⟨h0, h | h⟩ := HS.step_cases h
    · have hf := frame_len h.1.1
      have e1 : t.next = (frameR s.rest).1 + 1 := by rw [h.2]; rfl
      have e2 : t.skip = s.skip := by rw [h.2]; rfl
      have e3 : t.lost = s.lost + ((frameR s.rest).1 - s.next) := by rw [h.2]; rfl
      have e4 : t.told.length ≤ s.told.length + 2 := by
        rw [h.2]
        show (s.told ++ tells _ _ _).length ≤ _
        unfold tells
        split <;> simp
      obtain ⟨a, b, c, d, e⟩ := ih (by omega)
      refine ⟨a, by omega, by omega, by omega, by omega⟩
    · have e1 : t.next = s.next := by rw [h.2.2]; rfl
      have e2 : t.skip = s.skip + 1 := by rw [h.2.2]; rfl
      have e3 : t.lost = s.lost := by rw [h.2.2]; rfl
      have e4 : t.told = s.told := by rw [h.2.2]; rfl
      obtain ⟨a, b, c, d, e⟩ := ih (by omega)
      rw [e4] at e
      refine ⟨a, by omega, by omega, by omega, by omega⟩

/-! ### Counts -/

/-- What is told, from one number to another: how many bytes of frames, how many lost. -/
inductive Chain : Nat → List It → Nat → Nat → Nat → Prop
  | nil (n : Nat) : Chain n [] n 0 0
  | gap {n k : Nat} {l : List It} {m u lo : Nat} : 0 < k → n + k < 4294967296 → Chain (n + k) l m u lo → Chain n (⟨2, n, k, []⟩ :: l) m u (lo + k)
  | frame {q : Nat} {e : List Ev} {l : List It} {m u lo : Nat} : q < 4294967296 → (∀ x ∈ e, EvFits x) → (frameP q e).2 = 0 → Chain (q + 1) l m u lo → Chain q (⟨1, q, 0, e⟩ :: l) m (u + (frameP q e).1.length) lo
theorem chain_tells {n q : Nat} {e : List Ev} {l : List It} {m u lo : Nat} (hq : q < 4294967296) (hn : n ≤ q) (hf : ∀ x ∈ e, EvFits x) (hp : (frameP q e).2 = 0) (h : Chain (q + 1) l m u lo) :
    Chain n (tells n q e ++ l) m (u + (frameP q e).1.length) (lo + (q - n)) := by
  have h1 := Chain.frame hq hf hp h
  unfold tells
  by_cases hlt : n < q
  · rw [if_pos hlt]
    have := Chain.gap (n := n) (k := q - n) (by omega) (by omega) (by rw [show n + (q - n) = q by omega]; exact h1)
    exact this
  · have e0 : n = q := by omega
    subst e0
    rw [if_neg hlt, Nat.sub_self]
    exact h1
theorem HS.go_chain (cl : Bool) (s : HS) : ∃ l u lo, (s.go cl).told = s.told ++ l ∧ Chain s.next l (s.go cl).next u lo ∧ (s.go cl).lost = s.lost + lo ∧ s.skip + s.rest.length = (s.go cl).skip + (s.go cl).rest.length + u := by
  induction s using HS.ind cl with
  | stop s h => rw [HS.go_none h]; exact ⟨[], 0, 0, by simp, .nil _, rfl, rfl⟩
  | next s t h ih =>
    rw [HS.go_some h]
    obtain ⟨l, u, lo, i1, i2, i3, i4⟩ := ih
    obtain ⟨h0, h | h⟩ := HS.step_cases h
    · obtain ⟨cyc, cnt, p, rest, e1, e2, e3, -, -, e6, -, -, e7, e8⟩ := frame_one (L := s.rest) (q := (frameR s.rest).1) (l := (frameR s.rest).2.1) (n := (frameR s.rest).2.2.1) (by rw [← h.1.1])
      have hl := frame_len h.1.1
      have hp : (frameP (frameR s.rest).1 (frameR s.rest).2.1).2 = 0 := by rw [e7]
      have hpl : (frameP (frameR s.rest).1 (frameR s.rest).2.1).1.length = (frameR s.rest).2.2.1 := by rw [e7, e2]; exact frameB_len _ _ _ _
      rw [h.2] at i1 i2 i3 i4
      refine ⟨tells s.next (frameR s.rest).1 (frameR s.rest).2.1 ++ l, _, _, by rw [h.2, i1, HS.told1, List.append_assoc], by rw [h.2]; exact chain_tells e3 h.1.2 e8 hp i2, ?_, ?_⟩
      · rw [h.2, i3]; show s.lost + _ + lo = _; omega
      · rw [h.2]
        have : s.skip + (s.rest.drop (frameR s.rest).2.2.1).length = (s.told1.go cl).skip + (s.told1.go cl).rest.length + u := i4
        rw [List.length_drop] at this
        rw [hpl]
        omega
    · have hp : 0 < s.rest.length := List.length_pos_iff.2 h0
      rw [h.2.2] at i1 i2 i3 i4
      refine ⟨l, u, lo, by rw [h.2.2]; exact i1, by rw [h.2.2]; exact i2, by rw [h.2.2]; exact i3, ?_⟩
      have : s.skip + 1 + (s.rest.drop 1).length = (s.skip1.go cl).skip + (s.skip1.go cl).rest.length + u := i4
      rw [List.length_drop] at this
      rw [h.2.2]
      omega

/-! ### Frames of rising numbers, and other bytes -/

/-- A frame: its number and its events. -/
structure Fr where
  q : Nat
  evs : List Ev
def Fr.text (f : Fr) : List UInt8 := (frameP f.q f.evs).1
structure Fr.Ok (f : Fr) : Prop where
  lt : f.q < 4294967296
  fits : ∀ e ∈ f.evs, EvFits e
  pr : (frameP f.q f.evs).2 = 0
theorem Fr.Ok.len {f : Fr} (h : f.Ok) : 60 ≤ f.text.length ∧ f.text.length ≤ 179 := by
  obtain ⟨h0, h1, h2, h3⟩ := print_ok h.pr
  have := coil_some h0 h.fits h1
  unfold Fr.text
  rw [h3]
  simp only [frameB_len]
  omega
def Rise : Nat → List Fr → Prop
  | _, [] => True
  | n, f :: F => n ≤ f.q ∧ f.Ok ∧ Rise (f.q + 1) F
theorem Rise.mono {n m : Nat} {F : List Fr} (h : Rise n F) (hm : m ≤ n) : Rise m F := by
  cases F with
  | nil => trivial
  | cons f F => exact ⟨by have := h.1; omega, h.2⟩
/-- What frames of rising numbers tell. -/
def toldL : Nat → List Fr → List It
  | _, [] => []
  | n, f :: F => tells n f.q f.evs ++ toldL (f.q + 1) F

theorem HS.go_frame {cl : Bool} {t : List It} {f : Fr} (hf : f.Ok) {R : List UInt8} {n sk lo : Nat} (hn : n ≤ f.q) :
    (HS.mk t (f.text ++ R) n sk lo).go cl = (HS.mk (t ++ tells n f.q f.evs) R (f.q + 1) sk (lo + (f.q - n))).go cl := by
  have hb := frame_back hf.lt hf.fits hf.pr R
  have hb' : frameR (f.text ++ R) = (f.q, f.evs, f.text.length, 0) := hb
  rw [HS.go_some (HS.step_finds (s := HS.mk t (f.text ++ R) n sk lo) (show (frameR (f.text ++ R)).2.2.2 = 0 ∧ n ≤ (frameR (f.text ++ R)).1 by rw [hb']; exact ⟨rfl, hn⟩))]
  simp only [HS.told1, hb', List.drop_left]
theorem HS.go_skip {t : List It} {b : UInt8} {R : List UInt8} {n sk lo : Nat} (h : (frameR (b :: R)).2.2.2 ≠ 0) : (HS.mk t (b :: R) n sk lo).go true = (HS.mk t R n (sk + 1) lo).go true := by
  rw [HS.go_some (HS.step_skips (s := HS.mk t (b :: R) n sk lo) (by simp) (fun f => h f.1) (fun e => by have := e.2; cases this))]
  rfl
theorem HS.go_junk {t : List It} {R : List UInt8} {n lo : Nat} : ∀ (J : List UInt8) (sk : Nat), (∀ b ∈ J, b ≠ 255) → (HS.mk t (J ++ R) n sk lo).go true = (HS.mk t R n (sk + J.length) lo).go true
  | [], sk, h => rfl
  | b :: J, sk, h => by
    rw [List.cons_append, HS.go_skip (by rw [frame_other (h b List.mem_cons_self)]; decide), HS.go_junk J (sk + 1) (fun x hx => h x (List.mem_cons_of_mem _ hx)), List.length_cons]
    congr 2
    omega
/-- Frames, and bytes ahead of each and behind. -/
def weave : List (List UInt8) → List Fr → List UInt8
  | [], [] => []
  | j :: J, [] => j ++ weave J []
  | [], f :: F => f.text ++ weave [] F
  | j :: J, f :: F => j ++ (f.text ++ weave J F)
theorem HS.go_weave : ∀ (J : List (List UInt8)) (F : List Fr) (t : List It) (n sk lo : Nat), (∀ j ∈ J, ∀ b ∈ j, b ≠ 255) → Rise n F → ((HS.mk t (weave J F) n sk lo).go true).told = t ++ toldL n F
  | [], [], t, n, sk, lo, hj, hr => by
    rw [HS.go_none (HS.step_end (by simp [weave]))]
    simp [toldL]
  | j :: J, [], t, n, sk, lo, hj, hr => by
    rw [weave, HS.go_junk j sk (hj j List.mem_cons_self)]
    exact HS.go_weave J [] t n _ lo (fun x hx => hj x (List.mem_cons_of_mem _ hx)) hr
  | [], f :: F, t, n, sk, lo, hj, hr => by
    rw [weave, HS.go_frame hr.2.1 hr.1, HS.go_weave [] F _ _ _ _ hj hr.2.2, toldL, List.append_assoc]
  | j :: J, f :: F, t, n, sk, lo, hj, hr => by
    rw [weave, HS.go_junk j sk (hj j List.mem_cons_self), HS.go_frame hr.2.1 hr.1, HS.go_weave J F _ _ _ _ (fun x hx => hj x (List.mem_cons_of_mem _ hx)) hr.2.2, toldL, List.append_assoc]

end Go.Proofs.YtobioiicbdhboaaDoor

namespace Go.Proofs.YtobioiicbdhboaaDoor
open Go
set_option linter.unusedVariables false
set_option linter.unusedSimpArgs false

theorem mark_at {L : List UInt8} (h : markG L = 0) : ∀ j, j < 22 → L[j]? = markL[j]? := by
  obtain ⟨h1, h2⟩ := mark_step h
  have e := agr_pre L markL
  rw [h1] at e
  intro j hj
  have := congrArg (fun l : List UInt8 => l[j]?) e
  simp only [List.getElem?_take, hj, if_true] at this
  exact this

/-- Bytes of a frame, others behind, turned within a window: what is read there is the frame itself. -/
theorem frame_touched {f : Fr} (hf : f.Ok) {X t : List UInt8} (hl : t.length = (f.text ++ X).length) (hw : Win (num (f.text ++ X) ^^^ num t)) (h0 : (frameR t).2.2.2 = 0) : t.take f.text.length = f.text := by
  obtain ⟨g0, g1, g2, g3⟩ := print_ok hf.pr
  have hc := coil_some g0 hf.fits g1
  obtain ⟨cyc, cnt, p', rest, e1, -, -, -, -, e6, e7, -, -, -⟩ := frame_one (L := t) (q := (frameR t).1) (l := (frameR t).2.1) (n := (frameR t).2.2.1) (by rw [← h0])
  have gT : f.text = frameB f.q (f.evs.getD 0 ev0).cyc (f.evs.getD 0 ev0).cnt (coilL f.evs).1 := by unfold Fr.text; rw [g3]
  rw [gT] at hw hl ⊢
  generalize (coilL f.evs).1 = P at *
  generalize (f.evs.getD 0 ev0).cyc = cy at *
  generalize (f.evs.getD 0 ev0).cnt = cn at *
  generalize f.q = q at *
  generalize (frameR t).1 = q' at *
  have s1 : frameB q cy cn P ++ X = onesL ++ (sumd (headL q cy cn P.length) ++ (sumd P ++ X)) := by simp only [frameB, List.append_assoc]
  have t1 : t = onesL ++ (sumd (headL q' cyc cnt p'.length) ++ (sumd p' ++ rest)) := by rw [e1]; simp only [frameB, List.append_assoc]
  have w1 := mid_win hw s1 t1 rfl (by rw [sumd_len, sumd_len, head_len, head_len])
  have hH := sumd_win (by rw [head_len, head_len]) w1
  have hz := head_size (by omega) (by omega) hH
  have s2 : frameB q cy cn P ++ X = (onesL ++ sumd (headL q cy cn P.length)) ++ (sumd P ++ X) := by rw [s1, List.append_assoc]
  have t2 : t = (onesL ++ sumd (headL q' cyc cnt p'.length)) ++ (sumd p' ++ rest) := by rw [t1, List.append_assoc]
  have w2 := mid_win hw s2 t2 (by rw [List.length_append, List.length_append, sumd_len, sumd_len, head_len, head_len]) (by rw [sumd_len, sumd_len, hz])
  have hP := sumd_win hz.symm w2
  have t3 : t = frameB q cy cn P ++ rest := by rw [t1, ← hH, ← hP]; simp only [frameB, List.append_assoc]
  rw [t3, List.take_left]

/-- Bytes as they were but for five on end. -/
def Near (s t : List UInt8) (v : Nat) : Prop := t.length = s.length ∧ ∀ j, j < v ∨ v + 5 ≤ j → t[j]? = s[j]?
theorem Near.drop {s t : List UInt8} {v : Nat} (h : Near s t v) (n : Nat) : Near (s.drop n) (t.drop n) (v - n) := by
  refine ⟨by rw [List.length_drop, List.length_drop, h.1], fun j hj => ?_⟩
  rw [List.getElem?_drop, List.getElem?_drop]
  exact h.2 (n + j) (by omega)
theorem Near.front {s t : List UInt8} {v : Nat} (h : Near s t v) (n : Nat) : Near (s.take n) (t.take n) v := by
  refine ⟨by rw [List.length_take, List.length_take, h.1], fun j hj => ?_⟩
  rw [List.getElem?_take, List.getElem?_take]
  split
  · exact h.2 j hj
  · rfl
theorem Near.app {s t X : List UInt8} {v : Nat} (h : Near s t v) : Near (s ++ X) (t ++ X) v := by
  refine ⟨by rw [List.length_append, List.length_append, h.1], fun j hj => ?_⟩
  rcases Nat.lt_or_ge j s.length with hl | hl
  · rw [List.getElem?_append_left hl, List.getElem?_append_left (by rw [h.1]; exact hl)]; exact h.2 j hj
  · rw [List.getElem?_append_right hl, List.getElem?_append_right (by rw [h.1]; exact hl), h.1]

def catF (F : List Fr) : List UInt8 := F.flatMap Fr.text
theorem catF_cons (f : Fr) (F : List Fr) : catF (f :: F) = f.text ++ catF F := rfl

/-- Within a frame, behind its beginning, no marker stands. -/
theorem no_marker {f : Fr} {F : List Fr} {n : Nat} (h : Rise n (f :: F)) {t : List UInt8} {v : Nat} (hn : Near (catF (f :: F)) t v) {i : Nat} (h1 : 0 < i) (h2 : i < f.text.length) : markG (t.drop i) ≠ 0 := by
  intro hm
  have hat := mark_at hm
  have hlen := (mark_step hm).2
  rw [List.length_drop] at hlen
  have hf := h.2.1
  have lf := hf.len
  have hat' : ∀ j, j < 22 → t[i + j]? = markL[j]? := fun j hj => by rw [← hat j hj, List.getElem?_drop]
  cases F with
  | nil =>
    have hT : catF [f] = f.text := by simp [catF]
    rw [hT] at hn
    have two := two_printed (q := f.q) (r := f.q) (l := f.evs) (m := f.evs) hf.fits hf.fits hf.pr hf.pr
    have two' : Two (f.text ++ f.text) f.text.length := two
    have hA := hn.app (X := f.text)
    have := marker_places two' hA.1 hA.2 (i := i) (by rw [List.length_append]; omega) (fun j hj => by
      rw [List.getElem?_append_left (by omega)]; exact hat' j hj)
    omega
  | cons g G =>
    have hg := h.2.2.2.1
    have lg := hg.len
    have two := two_printed (q := f.q) (r := g.q) (l := f.evs) (m := g.evs) hf.fits hg.fits hf.pr hg.pr
    have two' : Two (f.text ++ g.text) f.text.length := two
    have e : (catF (f :: g :: G)).take (f.text.length + g.text.length) = f.text ++ g.text := by
      rw [catF_cons, catF_cons, ← List.append_assoc, ← List.length_append, List.take_left]
    have hA := hn.front (f.text.length + g.text.length)
    rw [e] at hA
    have := marker_places two' hA.1 hA.2 (i := i) (by rw [hA.1, List.length_append]; omega) (fun j hj => by
      rw [List.getElem?_take, if_pos (by omega)]; exact hat' j hj)
    omega

/-- Bytes among which no frame begins are skipped. -/
theorem HS.go_over {t : List It} {n lo : Nat} : ∀ (k : Nat) (L : List UInt8) (sk : Nat), k ≤ L.length → (∀ i, i < k → (frameR (L.drop i)).2.2.2 ≠ 0) → (HS.mk t L n sk lo).go true = (HS.mk t (L.drop k) n (sk + k) lo).go true
  | 0, L, sk, hk, h => by simp
  | k + 1, [], sk, hk, h => by simp at hk
  | k + 1, b :: L, sk, hk, h => by
    rw [HS.go_skip (by simpa using h 0 (by omega)), HS.go_over k L (sk + 1) (by simpa using hk) (fun i hi => by simpa using h (i + 1) (by omega)), List.drop_succ_cons]
    congr 2
    omega

/-- The frames that have all their bytes. -/
def keptL : List Fr → List UInt8 → List Fr
  | [], _ => []
  | f :: F, t => if t.take f.text.length = f.text then f :: keptL F (t.drop f.text.length) else keptL F (t.drop f.text.length)

theorem HS.go_burst : ∀ (F : List Fr) (t : List UInt8) (v n : Nat) (told : List It) (sk lo : Nat), Rise n F → Near (catF F) t v → Win (num (catF F) ^^^ num t) → ((HS.mk told t n sk lo).go true).told = told ++ toldL n (keptL F t)
  | [], t, v, n, told, sk, lo, hr, hn, hw => by
    have : t = [] := List.eq_nil_of_length_eq_zero hn.1
    subst this
    rw [HS.go_none (HS.step_end rfl)]
    simp [keptL, toldL]
  | f :: F, t, v, n, told, sk, lo, hr, hn, hw => by
    have hf := hr.2.1
    have hl := hn.1
    have hL : (catF (f :: F)).length = f.text.length + (catF F).length := by rw [catF_cons, List.length_append]
    have hd : (catF (f :: F)).drop f.text.length = catF F := by rw [catF_cons, List.drop_left]
    have hn' : Near (catF F) (t.drop f.text.length) (v - f.text.length) := by have := hn.drop f.text.length; rwa [hd] at this
    have htl : (t.take f.text.length).length = f.text.length := by rw [List.length_take]; omega
    have hw' : Win (num (catF F) ^^^ num (t.drop f.text.length)) :=
      mid_win hw (a := f.text) (b := catF F) (c := []) (a' := t.take f.text.length) (b' := t.drop f.text.length) (c' := []) (by rw [List.append_nil, catF_cons]) (by rw [List.append_nil, List.take_append_drop]) htl hn'.1
    by_cases hk : t.take f.text.length = f.text
    · rw [keptL, if_pos hk]
      have ht : t = f.text ++ t.drop f.text.length := by
        have := List.take_append_drop f.text.length t
        rw [hk] at this
        exact this.symm
      conv => lhs; rw [ht]
      rw [HS.go_frame hf hr.1, HS.go_burst F _ _ _ _ _ _ hr.2.2 hn' hw', toldL, List.append_assoc]
    · rw [keptL, if_neg hk]
      rw [HS.go_over f.text.length t sk (by omega) (fun i hi => ?_), HS.go_burst F _ _ _ _ _ _ (hr.2.2.mono (by have := hr.1; omega)) hn' hw']
      rcases Nat.eq_zero_or_pos i with rfl | hp
      · rw [List.drop_zero]
        intro h0
        exact hk (frame_touched hf (X := catF F) hl hw h0)
      · exact frame_unmarked (no_marker hr hn hp hi)

/-- Behind one burst. -/
theorem near_burst {s t : List UInt8} {a p : Nat} (hp : p < 4294967296) (hl : t.length = s.length) (ht : num t = num s ^^^ burst a p (8 * s.length)) : Near s t (a / 8) ∧ Win (num s ^^^ num t) :=
  ⟨⟨hl, bytes_kept hp hl ht⟩, by rw [ht, nxor_cancel]; exact win_burst a p _ hp⟩

end Go.Proofs.YtobioiicbdhboaaDoor

namespace Go.Proofs.YtobioiicbdhboaaDoor
open Go.RowKit
set_option linter.unusedVariables false
set_option linter.unusedSimpArgs false

/-! ### Kinds of blocks -/

theorem Tag.lt {w : World} {k : Nat} {ty : TypeId} (h : Tag w k ty) : k < w.heap.size := by
  obtain ⟨cs, o, h⟩ := h; exact blk_lt h
theorem Tag.ne {w : World} {k j : Nat} {a b : TypeId} (h : Tag w k a) (g : Tag w j b) (hn : a ≠ b) : k ≠ j := by
  rintro rfl
  obtain ⟨cs, o, h⟩ := h
  obtain ⟨cs', o', g⟩ := g
  rw [h] at g
  simp only [Option.some.injEq, Obj.cells.injEq] at g
  exact hn g.2.1
theorem Tag.only {w w' : World} {S : Nat → Prop} {k : Nat} {ty : TypeId} (h : Tag w k ty) (ho : Only w w' S) (hn : ¬ S k) : Tag w' k ty := by
  have hl := h.lt
  obtain ⟨cs, o, h⟩ := h
  exact ⟨cs, o, (ho.block k hl hn).trans h⟩
theorem tag_row {w : World} {base : Nat} {e : TypeId} {size : Nat} {v : Value} {n : Nat} {xs : List Value} (h : w.ownsRow base e size v n xs) {k : Nat} (hk : v.ownBlock = some k) : Tag w k e := by
  rcases h.2 with ⟨rfl, _⟩ | ⟨g, cap, cur, rfl, _, hg, _⟩
  · cases hk
  · cases hk; exact ⟨cur, (0, 0), hg⟩

/-! ### Rows of bytes -/

def Bts (w : World) (B : Nat) (v : Value) (l : List UInt8) : Prop :=
  (v = .slice none 0 0 ∧ l = []) ∨ ∃ g cap cur fz, v = .slice (some ⟨g, 0, none⟩) l.length cap ∧ B ≤ g ∧ w.heap[g]? = some (.cells cur 5 fz) ∧ (fz = (0, 0) ∨ cur.size ≤ fz.1) ∧ l.length ≤ cap ∧ cap ≤ maxLen ∧ cur.size = cap ∧ cur.toList.take l.length = cellsOf l
theorem bts_nil (w : World) (B : Nat) : Bts w B (.slice none 0 0) [] := .inl ⟨rfl, rfl⟩
theorem Bts.shape {w : World} {B : Nat} {v : Value} {l : List UInt8} (h : Bts w B v l) : ∃ ao cap, v = .slice ao l.length cap := by
  rcases h with ⟨rfl, rfl⟩ | ⟨g, cap, cur, fz, rfl, _⟩
  · exact ⟨_, _, rfl⟩
  · exact ⟨_, _, rfl⟩
theorem Bts.tag {w : World} {B : Nat} {v : Value} {l : List UInt8} (h : Bts w B v l) {k : Nat} (hk : v.ownBlock = some k) : B ≤ k ∧ Tag w k 5 := by
  rcases h with ⟨rfl, _⟩ | ⟨g, cap, cur, fz, rfl, hb, hg, _⟩
  · cases hk
  · cases hk; exact ⟨hb, cur, fz, hg⟩
theorem Bts.only {w w' : World} {S : Nat → Prop} {B : Nat} {v : Value} {l : List UInt8} (h : Bts w B v l) (ho : Only w w' S) (hn : ∀ k, v.ownBlock = some k → ¬ S k) : Bts w' B v l := by
  rcases h with h | ⟨g, cap, cur, fz, rfl, hb, hg, r⟩
  · exact .inl h
  · exact .inr ⟨g, cap, cur, fz, rfl, hb, (ho.block g (blk_lt hg) (hn g rfl)).trans hg, r⟩
theorem Bts.base {w : World} {B C : Nat} {v : Value} {l : List UInt8} (h : Bts w B v l) (hC : C ≤ B) : Bts w C v l := by
  rcases h with h | ⟨g, cap, cur, fz, rfl, hb, r⟩
  · exact .inl h
  · exact .inr ⟨g, cap, cur, fz, rfl, by omega, r⟩
theorem bts_own {w : World} {B : Nat} {v : Value} {l : List UInt8} (h : w.ownsRow B 5 1 v l.length (cellsOf l)) : Bts w B v l := by
  rcases h.2 with ⟨rfl, hn⟩ | ⟨g, cap, cur, rfl, hb, hg, h1, h2, h3, h4⟩
  · exact .inl ⟨rfl, List.eq_nil_of_length_eq_zero hn⟩
  · exact .inr ⟨g, cap, cur, (0, 0), rfl, hb, hg, .inl rfl, h1, h2, by omega, by simpa using h4⟩
theorem Bts.cell {w : World} {B : Nat} {g cap n : Nat} {l : List UInt8} (h : Bts w B (.slice (some ⟨g, 0, none⟩) n cap) l) : ∀ j u, (cellsOf l)[j]? = some u → w.cell? ((⟨g, 0, none⟩ : Addr).add j) = some u := by
  intro j u hj
  rcases h with ⟨h, _⟩ | ⟨g', cap', cur, fz, h, hb, hg, h0, h1, h2, h3, h4⟩
  · cases h
  · simp only [Value.slice.injEq, Option.some.injEq, Addr.mk.injEq, and_true] at h
    obtain ⟨rfl, rfl, rfl⟩ := h
    have ha : (⟨g, 0, none⟩ : Addr).add j = ⟨g, j, none⟩ := by unfold Addr.add; split <;> simp_all
    rw [ha, cell_of_row w g j cur _ fz hg]
    rw [← h4, List.getElem?_take] at hj
    split at hj
    · simpa using hj
    · cases hj
/-- The bytes as a text. -/
theorem Bts.conv {w : World} {B : Nat} {v : Value} {l : List UInt8} (h : Bts w B v l) : (convert 58 9 v).run Tryd.prog w = .ok (.string ⟨l.toArray⟩) w := by
  have h' := h
  rcases h with ⟨rfl, rfl⟩ | ⟨g, cap, cur, fz, rfl, _⟩
  · exact run_convert_bytes_nil (P := Tryd.prog) w 58 5 Tryd.underlying58 Tryd.underlying5 0 0 9 Tryd.underlying9
  · exact run_convert_bytes_back (P := Tryd.prog) w 58 9 5 ⟨g, 0, none⟩ cap l Tryd.underlying58 Tryd.underlying5 Tryd.underlying9 (fun j hj => h'.cell j _ (by simp [cellsOf, hj]))
/-- A text as bytes. -/
theorem bts_conv (w : World) (B : Nat) (hB : B ≤ w.heap.size) (s : ByteArray) (hs : s.size ≤ maxLen) : Bts (Lib.bytesWorld w 5 s) B (.slice (some ⟨w.heap.size, 0, none⟩) s.size (grownCap w s.size 0 5)) s.data.toList := by
  have hge := grownCap_ge w s.size 0 5
  have hsz : (Lib.bytesCells w 5 s).size = grownCap w s.size 0 5 := by
    have : s.data.size = s.size := rfl
    simp only [Lib.bytesCells, Array.size_append, Array.size_map, Array.size_replicate]
    omega
  refine .inr ⟨w.heap.size, _, _, _, by simp, hB, Lib.bytesWorld_at_new w 5 s, .inr (Nat.le_refl _), by simpa using hge, grownCap_le_maxLen w s.size 0 5 hs, hsz, ?_⟩
  simp only [Lib.bytesCells, Array.toList_append, Array.toList_map]
  rw [List.take_append_of_le_length (by simp), List.take_of_length_le (by simp)]
  rfl

theorem only_setCellsB (b : Nat) : ∀ (vs : List Value) (o : Nat) (w : World), Only w (w.setCells b o vs) (fun k => k = b)
  | [], _, w => Only.refl _ _
  | v :: r, o, w => (Only.setCell w b o v (fun k => k = b) rfl).trans (only_setCellsB b r (o + 1) (w.setCell ⟨b, o, none⟩ v)) (fun k _ h => h)
theorem heap_setCell_any (w : World) (g i : Nat) (cs : Array Value) (t : TypeId) (fz : Nat × Nat) (v : Value) (hg : w.heap[g]? = some (.cells cs t fz)) : (w.setCell ⟨g, i, none⟩ v).heap[g]? = some (.cells (cs.setIfInBounds i v) t fz) := by
  rw [setCell_eq_setRow w g i cs t fz v hg]
  exact setRow_heap w g cs _ t _ hg
theorem heap_setCellsB (g : Nat) (e : TypeId) (fz : Nat × Nat) : ∀ (vs : List Value) (o : Nat) (w : World) (cur : Array Value), w.heap[g]? = some (.cells cur e fz) →
    ∃ cur', (w.setCells g o vs).heap[g]? = some (.cells cur' e fz) ∧ cur'.size = cur.size ∧ (∀ j, (j < o ∨ o + vs.length ≤ j) → cur'[j]? = cur[j]?) ∧ ∀ j (hj : j < vs.length), o + j < cur.size → cur'[o + j]? = some vs[j]
  | [], o, w, cur, h => ⟨cur, h, rfl, fun j _ => rfl, fun j hj => by simp at hj⟩
  | v :: r, o, w, cur, h => by
    obtain ⟨cur', h1, h2, h3, h4⟩ := heap_setCellsB g e fz r (o + 1) (w.setCell ⟨g, o, none⟩ v) _ (heap_setCell_any w g o cur e fz v h)
    refine ⟨cur', h1, by rw [h2]; simp, fun j hj => ?_, fun j hj hc => ?_⟩
    · rw [h3 j (by simp at hj; omega), Array.getElem?_setIfInBounds_ne (by simp at hj; omega)]
    · cases j with
      | zero => rw [Nat.add_zero, h3 o (by omega), Array.getElem?_setIfInBounds, if_pos rfl, if_pos (by simpa using hc)]; rfl
      | succ j => rw [show o + (j + 1) = o + 1 + j by omega, h4 j (by simpa using hj) (by simp; omega)]; rfl

/-- append(bytes, text...). -/
theorem run_append_bts {w : World} {B : Nat} {v : Value} {l : List UInt8} (h : Bts w B v l) (hB : B ≤ w.heap.size) (ty : TypeId) (s : ByteArray) (hb : l.length + s.size ≤ 4000000) :
    ∃ ao cap w', (Builtin.append_ #[58, 9] ty #[v, .string s]).run Tryd.prog w = .ok (.slice ao (l.length + s.size) cap) w' ∧ Bts w' B (.slice ao (l.length + s.size) cap) (l ++ s.data.toList) ∧ Only w w' (fun k => v.ownBlock = some k) := by
  obtain ⟨i0, hi, hz0, hz1, hz2⟩ := info_parts Tryd.infoU8
  have hm : l.length + s.size ≤ maxLen := by unfold maxLen; omega
  have hsl : s.data.toList.length = s.size := rfl
  have fin : ∀ (v' : Value) (w' : World), w'.ownsRow B 5 1 v' (l.length + s.size) (cellsOf l ++ Lib.strCells s) → ∃ ao cap, v' = .slice ao (l.length + s.size) cap ∧ Bts w' B v' (l ++ s.data.toList) := by
    intro v' w' hown
    rw [show Lib.strCells s = cellsOf s.data.toList from rfl, ← cellsOf_append] at hown
    obtain ⟨ao, cap, rfl⟩ := own_slice' hown
    exact ⟨ao, cap, rfl, bts_own (by rw [List.length_append, hsl]; exact hown)⟩
  have h' := h
  rcases h with ⟨rfl, rfl⟩ | ⟨g, cap, cur, fz, rfl, hbg, hg, hfz, hlc, hcm, hcs, htk⟩
  · obtain ⟨v', w', h1, h2, h3, -⟩ := Lib.run_append_own_string (P := Tryd.prog) w B 58 9 ty 5 i0 Tryd.underlying58 Tryd.underlying9 hi hz0 hz1 hz2 (.slice none 0 0) 0 [] (World.ownsRow_nil _ _ _ _) s (by simpa using hm) (by simp at hb; omega) hB
    obtain ⟨ao, cap, rfl, h4⟩ := fin v' w' (by simpa [cellsOf] using h2)
    exact ⟨ao, cap, w', h1, h4, Only.of_grown h3 (fun k e => e)⟩
  · by_cases hr : l.length + s.size ≤ cap
    · have hf := Lib.run_firstCells_string (P := Tryd.prog) w 1 s
      have hst := run_storeCells_cells (P := Tryd.prog) g l.length (Lib.strCells s) 0 w
        (fun j hj => by
          rw [Lib.strCells_length] at hj
          rw [Nat.add_zero, cell_of_row w g _ cur _ fz hg, Array.getElem?_eq_getElem (by omega)]; rfl)
        (fun j hj => by
          rw [Lib.strCells_length] at hj
          rcases hfz with rfl | hfz
          · exact frozen_of_row w g _ cur _ hg
          · obtain ⟨a, b⟩ := fz
            simp only at hfz
            simp only [World.frozen?, hg, Bool.and_eq_false_iff, decide_eq_false_iff_not]
            left; omega)
        (Lib.strCells_oneCell s)
      rw [Nat.add_zero] at hst
      obtain ⟨cur', e1, e2, e3, e4⟩ := heap_setCellsB g 5 fz (Lib.strCells s) l.length w cur hg
      refine ⟨some ⟨g, 0, none⟩, cap, w.setCells g l.length (Lib.strCells s), ?_, .inr ⟨g, cap, cur', fz, by rw [List.length_append, hsl], hbg, e1, by rw [e2]; exact hfz, by rw [List.length_append, hsl]; exact hr, hcm, by omega, ?_⟩, (only_setCellsB g _ _ w).mono fun k _ e => by rw [e]; rfl⟩
      · simp [Builtin.append_, run_underlying Tryd.underlying58, run_underlying Tryd.underlying9, sizeOf, typeInfo, hi, hz1, Builtin.lenOf, hr, hf, Addr.add_lit, hst]
      · apply List.ext_getElem?
        intro j
        rw [List.length_append, hsl, List.getElem?_take, cellsOf_append]
        rcases Nat.lt_or_ge j l.length with hj | hj
        · rw [if_pos (by omega), Array.getElem?_toList, e3 j (.inl hj), List.getElem?_append_left (by rw [cellsOf_length]; exact hj), ← htk, List.getElem?_take, if_pos hj, Array.getElem?_toList]
        · rw [List.getElem?_append_right (by rw [cellsOf_length]; exact hj), cellsOf_length]
          by_cases hj2 : j < l.length + s.size
          · rw [if_pos hj2, Array.getElem?_toList]
            have := e4 (j - l.length) (by rw [Lib.strCells_length]; omega) (by omega)
            rw [show l.length + (j - l.length) = j by omega] at this
            rw [this, ← List.getElem?_eq_getElem]
            rfl
          · rw [if_neg hj2, List.getElem?_eq_none (by rw [cellsOf_length, hsl]; omega)]
    · have hgr := Lib.run_append_grow_string (P := Tryd.prog) w 58 9 ty 5 i0 (.int .u8 0) Tryd.underlying58 Tryd.underlying9 hi hz0 ⟨g, 0, none⟩ l.length cap (cellsOf l) (by rw [hz1, cellsOf_length, Nat.mul_one]) h'.cell s (by omega) (by omega) (by rw [hz2]; exact growslice_fits (by omega) (by omega))
      have hge := grownCap_ge w (l.length + s.size) cap 5
      have hcm2 := grownCap_le_maxLen w (l.length + s.size) cap 5 hm
      have hown : (w.drew.alloc (.cells ((cellsOf l).toArray ++ (Lib.strCells s).toArray ++ Builtin.zeroCells (Value.int .u8 0).cells (grownCap w (l.length + s.size) cap 5 - (l.length + s.size))) 5)).ownsRow B 5 1
          (.slice (some ⟨w.heap.size, 0, none⟩) (l.length + s.size) (grownCap w (l.length + s.size) cap 5)) (l.length + s.size) (cellsOf l ++ Lib.strCells s) := by
        have hlen : (cellsOf l ++ Lib.strCells s).length = (l.length + s.size) * 1 := by rw [List.length_append, cellsOf_length, Lib.strCells_length, Nat.mul_one]
        refine ⟨hlen, .inr ⟨w.heap.size, _, _, rfl, hB, heap_alloc_new w.drew _, hge, hcm2, ?_, ?_⟩⟩
        · have hz : (Value.int IntKind.u8 0).cells.size = 1 := rfl
          simp only [Array.size_append, List.size_toArray, size_zeroCells, hz, cellsOf_length, Lib.strCells_length]
          omega
        · simp only [Array.toList_append]
          rw [← hlen]
          exact List.take_left
      obtain ⟨ao, cap', e, h4⟩ := fin _ _ hown
      cases e
      exact ⟨_, _, _, hgr, h4, (Only.drewN w 1 _).trans (Only.alloc w.drew _ _) (fun _ _ h => h)⟩
theorem wpList_append_bts {w : World} {ops : Array Oper} {rest : List Oper} {o : Oper} {a : Act} {Q : Exit → Act → World → Prop} (hgd : o.guard = none) (sl x : Operand)
    (ho : o.op = .call { callee := .builtin .append, args := #[sl, x], argTypes := #[58, 9] }) (B : Nat) (v : Value) (hs : a.eval sl = v) (l : List UInt8) (h : Bts w B v l) (hB : B ≤ w.heap.size) (s : ByteArray) (hx : a.eval x = .string s) (hb : l.length + s.size ≤ 4000000)
    (hK : ∀ ao cap w', Bts w' B (.slice ao (l.length + s.size) cap) (l ++ s.data.toList) → Only w w' (fun k => v.ownBlock = some k) → wpList Tryd.prog ops Q rest (a.put o.dst (.slice ao (l.length + s.size) cap)) w') : wpList Tryd.prog ops Q (o :: rest) a w := by
  refine wpList_plain hgd fun K hK' => ?_
  obtain ⟨ao, cap, w', hrun, h1, h2⟩ := run_append_bts h hB o.type s hb
  unfold Oper.wp
  simp [execOp, ho, resolve, invoke, builtin, hs, hx, hrun, Result.andThen]
  exact hK' _ _ (hK ao cap w' h1 h2)

/-! ### Rows of items -/

/-- An item in memory: what it tells, and where its events lie. -/
structure Im where
  it : It
  ao : Option Addr
  cap : Nat
def im4 (m : Im) : List Value := [.int .i64 (m.it.kind : Int), .int .u32 (m.it.seq : Int), .int .u32 (m.it.lost : Int), .slice m.ao m.it.evs.length m.cap]
def imRow (l : List Im) : List Value := l.flatMap im4
def imO (m : Im) : Obj := .cells #[.int .i64 (m.it.kind : Int), .int .u32 (m.it.seq : Int), .int .u32 (m.it.lost : Int), .slice m.ao m.it.evs.length m.cap] 44 (0, 0)
theorem imRow_cons (m : Im) (l : List Im) : imRow (m :: l) = im4 m ++ imRow l := rfl
theorem imRow_append (l k : List Im) : imRow (l ++ k) = imRow l ++ imRow k := List.flatMap_append
theorem imRow_one (m : Im) : imRow [m] = im4 m := by unfold imRow; simp
theorem imRow_len (l : List Im) : (imRow l).length = l.length * 4 := by
  induction l with
  | nil => rfl
  | cons m l ih =>
    rw [imRow_cons, List.length_append, ih, List.length_cons]
    show 4 + _ = _
    omega
theorem imRow_cell (l : List Im) : ∀ u ∈ imRow l, u.oneCell' = true := by
  intro u hu
  unfold imRow at hu
  obtain ⟨m, _, h⟩ := List.mem_flatMap.1 hu
  simp only [im4, List.mem_cons, List.not_mem_nil, or_false] at h
  rcases h with rfl | rfl | rfl | rfl <;> rfl
theorem imRow_at : ∀ (l : List Im) (i : Nat) (h : i < l.length) (j : Nat), j < 4 → (imRow l)[i * 4 + j]? = (im4 l[i])[j]?
  | m :: l, 0, h, j, hj => by
    rw [imRow_cons, Nat.zero_mul, Nat.zero_add, List.getElem?_append_left (by exact hj)]
    rfl
  | m :: l, i + 1, h, j, hj => by
    have e2 : (im4 m).length = 4 := rfl
    rw [imRow_cons, List.getElem?_append_right (by omega), e2, show (i + 1) * 4 + j - 4 = i * 4 + j by omega, imRow_at l i (by simpa using h) j hj]
    rfl

/-- An item's events lie where they stay. -/
structure ImOk (B : Nat) (w : World) (m : Im) : Prop where
  sn : SeenE w m.ao m.cap m.it.evs
  pl : ∀ x, m.ao = some x → x.block < B ∨ Tag w x.block 69
theorem SeenE.onlyH {w w' : World} {S : Nat → Prop} {ao : Option Addr} {cap : Nat} {l : List Ev} (h : SeenE w ao cap l) (ho : Only w w' S) (hn : ∀ x, ao = some x → ¬ S x.block) : SeenE w' ao cap l := by
  refine ⟨h.mx, h.lc, h.nn, fun i hi => ?_⟩
  obtain ⟨b, off, h1, h2, h3⟩ := h.row i hi
  exact ⟨b, off, h1, by have := ho.size; omega, fun j hj => (h3 j hj).same (ho.block b h2 (hn _ h1))⟩
theorem ImOk.only {w w' : World} {S : Nat → Prop} {B : Nat} {m : Im} (h : ImOk B w m) (ho : Only w w' S) (hS : ∀ k, S k → B ≤ k ∧ ¬ Tag w k 69) : ImOk B w' m := by
  have hn : ∀ x, m.ao = some x → ¬ S x.block := fun x hx hs => by
    have := hS _ hs
    rcases h.pl x hx with h1 | h1
    · omega
    · exact this.2 h1
  exact ⟨h.sn.onlyH ho hn, fun x hx => (h.pl x hx).imp_right (fun t => t.only ho (hn x hx))⟩
/-- A row of items of one's own. -/
structure OwnI (B C : Nat) (w : World) (v : Value) (l : List Im) : Prop where
  row : w.ownsRow C 44 4 v l.length (imRow l)
  ok : ∀ m ∈ l, ImOk B w m
theorem ownI_nil (B C : Nat) (w : World) : OwnI B C w (.slice none 0 0) [] := ⟨World.ownsRow_nil _ _ _ _, fun m hm => by cases hm⟩
theorem OwnI.shape {B C : Nat} {w : World} {v : Value} {l : List Im} (h : OwnI B C w v l) : ∃ ao cap, v = .slice ao l.length cap := own_slice' h.row
theorem OwnI.tag {B C : Nat} {w : World} {v : Value} {l : List Im} (h : OwnI B C w v l) {k : Nat} (hk : v.ownBlock = some k) : C ≤ k ∧ Tag w k 44 := ⟨(h.row.lt k hk).1, tag_row h.row hk⟩
theorem OwnI.only {w w' : World} {S : Nat → Prop} {B C : Nat} {v : Value} {l : List Im} (h : OwnI B C w v l) (ho : Only w w' S) (hS : ∀ k, S k → B ≤ k ∧ ¬ Tag w k 69) (hv : ∀ k, S k → v.ownBlock ≠ some k) : OwnI B C w' v l :=
  ⟨row_only h.row ho (fun k hk hs => hv k hs hk), fun m hm => (h.ok m hm).only ho hS⟩
theorem OwnI.below {w w' : World} {B C : Nat} {v : Value} {l : List Im} (h : OwnI B C w v l) (hb : Below w.heap.size w w') : OwnI B C w' v l := by
  have ho := Only.of_below hb (fun _ => False)
  exact h.only ho (fun k hk => hk.elim) (fun k hk => hk.elim)
theorem OwnI.base {w : World} {B C D : Nat} {v : Value} {l : List Im} (h : OwnI B C w v l) (hD : D ≤ C) : OwnI B D w v l :=
  ⟨row_base h.row (fun k hk => by have := (h.row.lt k hk).1; omega), h.ok⟩
theorem OwnI.at {w : World} {B C n cap : Nat} {ao : Option Addr} {l : List Im} (h : OwnI B C w (.slice ao n cap) l) (i : Nat) (hi : i < l.length) : ∃ g, ao = some ⟨g, 0, none⟩ ∧ w.cell? ⟨g, i * 4, none⟩ = some (.int .i64 (l[i].it.kind : Int)) ∧ w.cell? ⟨g, i * 4 + 1, none⟩ = some (.int .u32 (l[i].it.seq : Int)) ∧
    w.cell? ⟨g, i * 4 + 2, none⟩ = some (.int .u32 (l[i].it.lost : Int)) ∧ w.cell? ⟨g, i * 4 + 3, none⟩ = some (.slice l[i].ao l[i].it.evs.length l[i].cap) := by
  have hown := h.row
  rcases hown.2 with ⟨e, hn⟩ | ⟨g, cap', cur, e, hb, hg, hc, hm, hs, ht⟩
  · omega
  · cases e
    have key : ∀ d, d < 4 → w.cell? ⟨g, i * 4 + d, none⟩ = (im4 l[i])[d]? := by
      intro d hd
      rw [hown.cellAt (i * 4 + d) (by omega), imRow_at l i hi d hd]
    exact ⟨g, rfl, key 0 (by omega), key 1 (by omega), key 2 (by omega), key 3 (by omega)⟩

theorem Tryd.infoIt : (Tryd.prog.info? 44).map (fun i => (i.zero, i.size, i.bytes)) = some (some (.agg #[.int .i64 0, .int .u32 0, .int .u32 0, .slice none 0 0]), 4, 40) := by kernel_rfl
theorem run_append_im {w : World} {C C2 : Nat} {v vx : Value} {l l2 : List Im} (h : w.ownsRow C 44 4 v l.length (imRow l)) (hC : C ≤ w.heap.size) (h2 : w.ownsRow C2 44 4 vx l2.length (imRow l2)) (ty : TypeId) (hb : l.length + l2.length ≤ 4000000) :
    ∃ ao cap w', (Builtin.append_ #[35, 35] ty #[v, vx]).run Tryd.prog w = .ok (.slice ao (l.length + l2.length) cap) w' ∧ w'.ownsRow C 44 4 (.slice ao (l.length + l2.length) cap) (l ++ l2).length (imRow (l ++ l2)) ∧ w.grownBy w' v.ownBlock := by
  obtain ⟨i0, hi, hz0, hz1, hz2⟩ : ∃ i, Tryd.prog.info? 44 = some i ∧ i.zero = some (.agg #[.int .i64 0, .int .u32 0, .int .u32 0, .slice none 0 0]) ∧ i.size = 4 ∧ i.bytes = 40 := by
    have h := Tryd.infoIt
    cases hi : Tryd.prog.info? 44 with
    | none => rw [hi] at h; cases h
    | some i =>
      rw [hi] at h
      simp only [Option.map_some, Option.some.injEq, Prod.mk.injEq] at h
      exact ⟨i, rfl, h.1, h.2.1, h.2.2⟩
  rcases h2.2 with ⟨rfl, hn⟩ | ⟨g, cap2, cur, rfl, _⟩
  · have hl2 : l2 = [] := List.eq_nil_of_length_eq_zero hn
    subst hl2
    have hrun := run_append_owned_none (P := Tryd.prog) (w := w) C 35 ty 44 i0 4 Tryd.underlying35 hi v l.length (imRow l) h
    obtain ⟨ao, cap, rfl⟩ := own_slice' h
    exact ⟨ao, cap, w, hrun, by simpa using h, ⟨rfl, rfl, rfl, Nat.le_refl _, fun _ _ _ => rfl⟩⟩
  · obtain ⟨v', w', hrun, hown, hgr, _⟩ := run_append_own (P := Tryd.prog) w C 35 ty 44 i0 _ 4 40 Tryd.underlying35 hi hz0 hz1 hz2 rfl (by decide) v l.length (imRow l) h ⟨g, 0, none⟩ l2.length cap2 (imRow l2) (imRow_len l2) (h2.cells (g := g) rfl) (imRow_cell l2) (by unfold maxLen; omega) (by omega) hC
    rw [← imRow_append] at hown
    obtain ⟨ao, cap, rfl⟩ := own_slice' hown
    exact ⟨ao, cap, w', hrun, by rw [List.length_append]; exact hown, hgr⟩
theorem wpList_append_im {w : World} {ops : Array Oper} {rest : List Oper} {o : Oper} {a : Act} {Q : Exit → Act → World → Prop} (hgd : o.guard = none) (sl x : Operand)
    (ho : o.op = .call { callee := .builtin .append, args := #[sl, x], argTypes := #[35, 35] }) (C C2 : Nat) (v vx : Value) (hs : a.eval sl = v) (l l2 : List Im) (h : w.ownsRow C 44 4 v l.length (imRow l)) (hC : C ≤ w.heap.size)
    (hx : a.eval x = vx) (h2 : w.ownsRow C2 44 4 vx l2.length (imRow l2)) (hb : l.length + l2.length ≤ 4000000)
    (hK : ∀ ao cap w', w'.ownsRow C 44 4 (.slice ao (l.length + l2.length) cap) (l ++ l2).length (imRow (l ++ l2)) → w.grownBy w' v.ownBlock → wpList Tryd.prog ops Q rest (a.put o.dst (.slice ao (l.length + l2.length) cap)) w') : wpList Tryd.prog ops Q (o :: rest) a w := by
  refine wpList_plain hgd fun K hK' => ?_
  obtain ⟨ao, cap, w', hrun, h1, h3⟩ := run_append_im h hC h2 o.type hb
  unfold Oper.wp
  simp [execOp, ho, resolve, invoke, builtin, hs, hx, hrun, Result.andThen]
  exact hK' _ _ (hK ao cap w' h1 h3)
/-- Behind append: both rows' items. -/
theorem OwnI.app {w w' : World} {B C C2 : Nat} {v vx v' : Value} {l l2 : List Im} (h : OwnI B C w v l) (h2 : ∀ m ∈ l2, ImOk B w m) (hBC : B ≤ C) (hr : w'.ownsRow C 44 4 v' (l ++ l2).length (imRow (l ++ l2))) (hg : w.grownBy w' v.ownBlock) : OwnI B C w' v' (l ++ l2) := by
  have ho : Only w w' (fun k => v.ownBlock = some k) := Only.of_grown hg (fun k e => e)
  have hS : ∀ k, v.ownBlock = some k → B ≤ k ∧ ¬ Tag w k 69 := fun k hk => by
    have := h.tag hk
    exact ⟨by omega, fun t => this.2.ne t (by decide) rfl⟩
  refine ⟨hr, fun m hm => ?_⟩
  rcases List.mem_append.1 hm with hm | hm
  · exact (h.ok m hm).only ho hS
  · exact (h2 m hm).only ho hS

/-! ### The hunter's block -/

structure HuntAt (w : World) (B b t : Nat) (v : Value) (s : HS) (cl : Bool) : Prop where
  blk : w.heap[b]? = some (.cells #[.pointer (some ⟨t, 0, none⟩), v, .int .u64 (s.next : Int), .int .u64 (s.skip : Int), .int .u64 (s.lost : Int), .bool cl] 60 (0, 0))
  row : Bts w B v s.rest
  tab : TabK w t 256
  base : B ≤ b
theorem HuntAt.lt {w : World} {B b t : Nat} {v : Value} {s : HS} {cl : Bool} (h : HuntAt w B b t v s cl) : b < w.heap.size := blk_lt h.blk
theorem HuntAt.tag {w : World} {B b t : Nat} {v : Value} {s : HS} {cl : Bool} (h : HuntAt w B b t v s cl) : Tag w b 60 := ⟨_, _, h.blk⟩
theorem tabK_tag {w : World} {t k : Nat} (h : TabK w t k) : Tag w t 63 := by obtain ⟨c, h1, _⟩ := h; exact ⟨c, _, h1⟩
theorem tabK_only {w w' : World} {S : Nat → Prop} {t k : Nat} (h : TabK w t k) (ho : Only w w' S) (hn : ¬ S t) : TabK w' t k := by
  have hl := h.lt
  obtain ⟨c, h1, h2⟩ := h
  exact ⟨c, (ho.block t hl hn).trans h1, h2⟩
theorem HuntAt.ne {w : World} {B b t : Nat} {v : Value} {s : HS} {cl : Bool} (h : HuntAt w B b t v s cl) : v.ownBlock ≠ some b ∧ t ≠ b :=
  ⟨fun e => (h.row.tag e).2.ne h.tag (by decide) rfl, fun e => (tabK_tag h.tab).ne h.tag (by decide) e⟩
/-- Other blocks are turned. -/
theorem HuntAt.only {w w' : World} {S : Nat → Prop} {B b t : Nat} {v : Value} {s : HS} {cl : Bool} (h : HuntAt w B b t v s cl) (ho : Only w w' S) (hb : ¬ S b) (hv : ∀ k, v.ownBlock = some k → ¬ S k) (ht : ¬ S t) : HuntAt w' B b t v s cl :=
  ⟨(ho.block b h.lt hb).trans h.blk, h.row.only ho hv, tabK_only h.tab ho ht, h.base⟩
theorem HuntAt.below {w w' : World} {B b t : Nat} {v : Value} {s : HS} {cl : Bool} (h : HuntAt w B b t v s cl) (hb : Below w.heap.size w w') : HuntAt w' B b t v s cl :=
  h.only (Only.of_below hb (fun _ => False)) id (fun _ _ => id) id
/-- Blocks of another kind are turned. -/
theorem HuntAt.onlyTag {w w' : World} {S : Nat → Prop} {B b t : Nat} {v : Value} {s : HS} {cl : Bool} (h : HuntAt w B b t v s cl) (ho : Only w w' S) (ty : TypeId) (hS : ∀ k, S k → Tag w k ty) (h1 : ty ≠ 60) (h2 : ty ≠ 5) (h3 : ty ≠ 63) : HuntAt w' B b t v s cl :=
  h.only ho (fun e => (hS _ e).ne h.tag h1 rfl) (fun k hk e => (hS _ e).ne (h.row.tag hk).2 h2 rfl) (fun e => (hS _ e).ne (tabK_tag h.tab) h3 rfl)
theorem HuntAt.cells {w : World} {B b t : Nat} {v : Value} {s : HS} {cl : Bool} (h : HuntAt w B b t v s cl) :
    w.cell? ⟨b, 0, none⟩ = some (.pointer (some ⟨t, 0, none⟩)) ∧ w.cell? ⟨b, 1, none⟩ = some v ∧ w.cell? ⟨b, 2, none⟩ = some (.int .u64 (s.next : Int)) ∧ w.cell? ⟨b, 3, none⟩ = some (.int .u64 (s.skip : Int)) ∧ w.cell? ⟨b, 4, none⟩ = some (.int .u64 (s.lost : Int)) ∧ w.cell? ⟨b, 5, none⟩ = some (.bool cl) := by
  refine ⟨?_, ?_, ?_, ?_, ?_, ?_⟩ <;> simp [World.cell?, h.blk]
theorem HuntAt.free {w : World} {B b t : Nat} {v : Value} {s : HS} {cl : Bool} (h : HuntAt w B b t v s cl) (i : Nat) : w.frozen? ⟨b, i, none⟩ = false := by simp [World.frozen?, h.blk]
theorem HuntAt.set {w : World} {B b t : Nat} {v v' : Value} {s s' : HS} {cl cl' : Bool} (h : HuntAt w B b t v s cl) (i : Nat) (u : Value) (hrow : Bts w B v' s'.rest)
    (he : (#[.pointer (some ⟨t, 0, none⟩), v, .int .u64 (s.next : Int), .int .u64 (s.skip : Int), .int .u64 (s.lost : Int), .bool cl] : Array Value).setIfInBounds i u = #[.pointer (some ⟨t, 0, none⟩), v', .int .u64 (s'.next : Int), .int .u64 (s'.skip : Int), .int .u64 (s'.lost : Int), .bool cl']) :
    HuntAt (w.setCell ⟨b, i, none⟩ u) B b t v' s' cl' ∧ Only w (w.setCell ⟨b, i, none⟩ u) (fun k => k = b) := by
  have ho := Only.setCell w b i u (fun k => k = b) rfl
  refine ⟨⟨?_, hrow.only ho (fun k hk e => (hrow.tag hk).2.ne h.tag (by decide) e), tabK_only h.tab ho h.ne.2, h.base⟩, ho⟩
  rw [heap_setCell_same w b i _ _ u h.blk, he]

/-- What a hunter's calls may turn: its block and (p) rows of bytes. -/
def HF (p : Prop) (B b : Nat) (w : World) (k : Nat) : Prop := B ≤ k ∧ (k = b ∨ (p ∧ Tag w k 5))
theorem HF.trans {p : Prop} {B b : Nat} {w w1 w2 : World} (h : Only w w1 (HF p B b w)) (g : Only w1 w2 (HF p B b w1)) : Only w w2 (HF p B b w) := by
  refine h.trans g (fun k hk hS => ?_)
  refine ⟨hS.1, ?_⟩
  rcases hS.2 with e | ⟨hp, e⟩
  · exact .inl e
  · by_cases hn : HF p B b w k
    · exact hn.2
    · right
      obtain ⟨cs, o, e⟩ := e
      rw [h.block k hk hn] at e
      exact ⟨hp, cs, o, e⟩
theorem HF.row {B b : Nat} {w : World} {v : Value} {l : List UInt8} (h : Bts w B v l) (k : Nat) (hk : v.ownBlock = some k) : HF True B b w k := ⟨(h.tag hk).1, .inr ⟨trivial, (h.tag hk).2⟩⟩
theorem HF.below {p : Prop} {B b : Nat} {w w' : World} (h : Only w w' (HF p B b w)) (hB : B ≤ w.heap.size) : Below B w w' := h.below hB (fun k hk => hk.1)
/-- Items stay. -/
theorem OwnI.hf {p : Prop} {B C b : Nat} {w w' : World} {v : Value} {l : List Im} (h : OwnI B C w v l) (hb : Tag w b 60) (ho : Only w w' (HF p B b w)) : OwnI B C w' v l := by
  refine h.only ho (fun k hk => ⟨hk.1, fun t => ?_⟩) (fun k hk e => ?_)
  · rcases hk.2 with rfl | ⟨-, h8⟩
    · exact t.ne hb (by decide) rfl
    · exact t.ne h8 (by decide) rfl
  · have := (h.tag e).2
    rcases hk.2 with rfl | ⟨-, h8⟩
    · exact this.ne hb (by decide) rfl
    · exact this.ne h8 (by decide) rfl

end Go.Proofs.YtobioiicbdhboaaDoor

namespace Go.Proofs.YtobioiicbdhboaaDoor
open Go.RowKit
set_option linter.unusedVariables false
set_option linter.unusedSimpArgs false

theorem hnew_nil (w : World) : Calls Tryd.prog 9 #[.pointer none] w fun e w' => e = .returned (.tuple #[.pointer none, .int .i64 16]) ∧ w = w' := by
  go_enter Tryd.func9, Tryd.ntmps9
  go_wp2
  go_ret2
  exact ⟨rfl, rfl⟩
theorem hnew_any (w : World) (t : Nat) : Calls Tryd.prog 9 #[.pointer (some ⟨t, 0, none⟩)] w fun e w' => e = .returned (.tuple #[.pointer (some ⟨w.heap.size, 0, none⟩), .int .i64 0]) ∧
    w' = w.alloc (.cells #[.pointer (some ⟨t, 0, none⟩), .slice none 0 0, .int .u64 0, .int .u64 0, .int .u64 0, .bool false] 60) := by
  go_enter Tryd.func9, Tryd.ntmps9
  go_wp2
  go_ret2
  exact ⟨rfl, rfl⟩
theorem hunt_new (w : World) (B t : Nat) (hB : B ≤ w.heap.size) (ht : TabK w t 256) :
    HuntAt (w.alloc (.cells #[.pointer (some ⟨t, 0, none⟩), .slice none 0 0, .int .u64 0, .int .u64 0, .int .u64 0, .bool false] 60)) B w.heap.size t (.slice none 0 0) hs0 false :=
  ⟨heap_alloc_new w _, bts_nil _ _, ht.alloc _, hB⟩
theorem hnext_nil (w : World) : Calls Tryd.prog 17 #[.pointer none] w fun e w' => e = .returned (.int .u64 0) ∧ w = w' := by
  go_enter Tryd.func17, Tryd.ntmps17
  go_wp2
  go_ret
  exact ⟨rfl, rfl⟩
theorem hskip_nil (w : World) : Calls Tryd.prog 18 #[.pointer none] w fun e w' => e = .returned (.int .u64 0) ∧ w = w' := by
  go_enter Tryd.func18, Tryd.ntmps18
  go_wp2
  go_ret
  exact ⟨rfl, rfl⟩
theorem hlost_nil (w : World) : Calls Tryd.prog 19 #[.pointer none] w fun e w' => e = .returned (.int .u64 0) ∧ w = w' := by
  go_enter Tryd.func19, Tryd.ntmps19
  go_wp2
  go_ret
  exact ⟨rfl, rfl⟩
theorem hnext_any {w : World} {B b t : Nat} {v : Value} {s : HS} {cl : Bool} (h : HuntAt w B b t v s cl) : Calls Tryd.prog 17 #[.pointer (some ⟨b, 0, none⟩)] w fun e w' => e = .returned (.int .u64 (s.next : Int)) ∧ w = w' := by
  obtain ⟨c0, c1, c2, c3, c4, c5⟩ := h.cells
  clear h
  go_enter Tryd.func17, Tryd.ntmps17
  go_wp2
  go_ret
  exact ⟨rfl, rfl⟩
theorem hskip_any {w : World} {B b t : Nat} {v : Value} {s : HS} {cl : Bool} (h : HuntAt w B b t v s cl) : Calls Tryd.prog 18 #[.pointer (some ⟨b, 0, none⟩)] w fun e w' => e = .returned (.int .u64 (s.skip : Int)) ∧ w = w' := by
  obtain ⟨c0, c1, c2, c3, c4, c5⟩ := h.cells
  clear h
  go_enter Tryd.func18, Tryd.ntmps18
  go_wp2
  go_ret
  exact ⟨rfl, rfl⟩
theorem hlost_any {w : World} {B b t : Nat} {v : Value} {s : HS} {cl : Bool} (h : HuntAt w B b t v s cl) : Calls Tryd.prog 19 #[.pointer (some ⟨b, 0, none⟩)] w fun e w' => e = .returned (.int .u64 (s.lost : Int)) ∧ w = w' := by
  obtain ⟨c0, c1, c2, c3, c4, c5⟩ := h.cells
  clear h
  go_enter Tryd.func19, Tryd.ntmps19
  go_wp2
  go_ret
  exact ⟨rfl, rfl⟩

/-! ### tell -/

/-- What tell may turn: the hunter, and rows of items. -/
def TF (b C : Nat) (w : World) (k : Nat) : Prop := k = b ∨ (C ≤ k ∧ Tag w k 44)
theorem TF.trans {b C : Nat} {w w1 w2 : World} (h : Only w w1 (TF b C w)) (g : Only w1 w2 (TF b C w1)) : Only w w2 (TF b C w) := by
  refine h.trans g (fun k hk hS => ?_)
  rcases hS with e | ⟨e1, e2⟩
  · exact .inl e
  · by_cases hn : TF b C w k
    · exact hn
    · right
      obtain ⟨cs, o, e⟩ := e2
      rw [h.block k hk hn] at e
      exact ⟨e1, cs, o, e⟩

/-- What holds while a frame is told: the hunter, the items, the frame. -/
structure TL (w wr : World) (B C b t D : Nat) (v vt : Value) (s : HS) (cl : Bool) (q : Nat) (ao : Option Addr) (cap : Nat) (evs : List Ev) (l : List Im) : Prop where
  hu : HuntAt wr B b t v s cl
  own : OwnI B C wr vt l
  fr : wr.heap[D]? = some (frO q ao evs.length cap)
  ev : ImOk B wr ⟨⟨1, q, 0, evs⟩, ao, cap⟩
  foot : Only w wr (TF b C w)
  hC : C ≤ wr.heap.size
  hBC : B ≤ C
theorem TL.set {w wr : World} {B C b t D : Nat} {v vt : Value} {s : HS} {cl : Bool} {q : Nat} {ao : Option Addr} {cap : Nat} {evs : List Ev} {l : List Im} (h : TL w wr B C b t D v vt s cl q ao cap evs l) (i : Nat) (u : Value) (s' : HS) (hr : s'.rest = s.rest)
    (he : (#[.pointer (some ⟨t, 0, none⟩), v, .int .u64 (s.next : Int), .int .u64 (s.skip : Int), .int .u64 (s.lost : Int), .bool cl] : Array Value).setIfInBounds i u = #[.pointer (some ⟨t, 0, none⟩), v, .int .u64 (s'.next : Int), .int .u64 (s'.skip : Int), .int .u64 (s'.lost : Int), .bool cl]) :
    TL w (wr.setCell ⟨b, i, none⟩ u) B C b t D v vt s' cl q ao cap evs l := by
  obtain ⟨h1, ho⟩ := h.hu.set (s' := s') (v' := v) (cl' := cl) i u (by rw [hr]; exact h.hu.row) he
  have hS : ∀ k, k = b → B ≤ k ∧ ¬ Tag wr k 69 := fun k e => by
    subst e
    exact ⟨h.hu.base, fun tg => tg.ne h.hu.tag (by decide) rfl⟩
  have hD : D ≠ b := Tag.ne (a := 48) ⟨_, _, h.fr⟩ h.hu.tag (by decide)
  exact ⟨h1, h.own.only ho hS (fun k e hk => by subst e; exact (h.own.tag hk).2.ne h.hu.tag (by decide) rfl), (ho.block D (blk_lt h.fr) hD).trans h.fr, h.ev.only ho hS, TF.trans h.foot (ho.mono fun k _ e => .inl e), Nat.le_trans h.hC ho.size, h.hBC⟩
theorem TL.app {w wr w2 : World} {B C b t D : Nat} {v vt v2 : Value} {s : HS} {cl : Bool} {q : Nat} {ao : Option Addr} {cap : Nat} {evs : List Ev} {l : List Im} (h : TL w wr B C b t D v vt s cl q ao cap evs l) (m : Im) (hm : ImOk B wr m)
    (hr : w2.ownsRow C 44 4 v2 (l ++ [m]).length (imRow (l ++ [m]))) (hg : (wr.alloc (imO m)).grownBy w2 vt.ownBlock) : TL w w2 B C b t D v v2 s cl q ao cap evs (l ++ [m]) := by
  have ho : Only wr w2 (fun k => vt.ownBlock = some k) := (Only.alloc wr _ _).trans (Only.of_grown hg (fun k e => e)) (fun _ _ e => e)
  have hT : ∀ k, vt.ownBlock = some k → Tag wr k 44 := fun k hk => (h.own.tag hk).2
  have hS : ∀ k, vt.ownBlock = some k → B ≤ k ∧ ¬ Tag wr k 69 := fun k hk => by
    have := h.own.tag hk
    have := h.hBC
    exact ⟨by omega, fun tg => tg.ne (hT k hk) (by decide) rfl⟩
  have hD : vt.ownBlock ≠ some D := fun e => (hT D e).ne (b := 48) ⟨_, _, h.fr⟩ (by decide) rfl
  refine ⟨h.hu.onlyTag ho 44 hT (by decide) (by decide) (by decide), ⟨hr, fun x hx => ?_⟩, (ho.block D (blk_lt h.fr) hD).trans h.fr, h.ev.only ho hS, TF.trans h.foot (ho.mono fun k _ e => .inr ⟨(h.own.tag e).1, hT k e⟩), Nat.le_trans h.hC ho.size, h.hBC⟩
  rcases List.mem_append.1 hx with hx | hx
  · exact (h.own.ok x hx).only ho hS
  · simp only [List.mem_cons, List.not_mem_nil, or_false] at hx
    subst hx
    exact hm.only ho hS
theorem im_lit (w : World) (C : Nat) (m : Im) (hC : C ≤ w.heap.size) : (w.alloc (imO m)).ownsRow C 44 4 (.slice (some ⟨w.heap.size, 0, none⟩) 1 1) [m].length (imRow [m]) := by
  rw [imRow_one]
  exact World.ownsRow_lit w _ 1 hC (by decide) rfl
theorem TL.row {w wr : World} {B C b t D : Nat} {v vt : Value} {s : HS} {cl : Bool} {q : Nat} {ao : Option Addr} {cap : Nat} {evs : List Ev} {l : List Im} (h : TL w wr B C b t D v vt s cl q ao cap evs l) (o : Obj) : (wr.alloc o).ownsRow C 44 4 vt l.length (imRow l) := World.ownsRow.alloc h.own.row o
theorem imOk_gap (B : Nat) (w : World) (n k : Nat) : ImOk B w ⟨⟨2, n, k, []⟩, none, 0⟩ := ⟨seenE_none _, fun x hx => by cases hx⟩

set_option maxRecDepth 100000 in
set_option maxHeartbeats 4000000 in
theorem htell_any {w : World} {B b t : Nat} {v : Value} {s : HS} {cl : Bool} (h : HuntAt w B b t v s cl) {C : Nat} {vt : Value} {l : List Im} (ho : OwnI B C w vt l) (hC : C ≤ w.heap.size) (hBC : B ≤ C) (q : Nat) (ao : Option Addr) (cap : Nat) (evs : List Ev) (hs : SeenE w ao cap evs) (ht : EvT w ao)
    (hq : q < 4294967296) (hn : s.next ≤ q) (hlo : s.lost + (q - s.next) < 18446744073709551616) (hl : l.length ≤ 1000000) :
    Calls Tryd.prog 36 #[.pointer (some ⟨b, 0, none⟩), vt, .agg #[.int .u32 (q : Int), .slice ao evs.length cap]] w fun r w' =>
      ∃ vt' l', r = .returned vt' ∧ OwnI B C w' vt' l' ∧ l'.map Im.it = l.map Im.it ++ tells s.next q evs ∧ HuntAt w' B b t v ⟨s.told, s.rest, q + 1, s.skip, s.lost + (q - s.next)⟩ cl ∧ Only w w' (TF b C w) := by
  obtain ⟨w1, x1⟩ : ∃ w1, w1 = w.alloc (frO q ao evs.length cap) := ⟨_, rfl⟩
  obtain ⟨s1, n1, b1⟩ := new_size x1
  have T1 : TL w w1 B C b t w.heap.size v vt s cl q ao cap evs l :=
    ⟨h.below b1, ho.below b1, n1, ⟨hs.below b1, fun x hx => .inr ((ht.below b1) x hx)⟩, Only.of_below b1 _, by omega, hBC⟩
  obtain ⟨tld, rst, n, sk, lo⟩ := s
  simp only at *
  obtain ⟨ao0, cap0, rfl⟩ := ho.shape
  have H1 := Lib.hid T1
  have Hbw := Lib.hid (show b < w.heap.size from h.lt)
  obtain ⟨c0, c1, c2, c3, c4, c5⟩ := T1.hu.cells
  simp only at c0 c1 c2 c3 c4 c5
  have f2 := T1.hu.free 2
  have f4 := T1.hu.free 4
  obtain ⟨d0, d1, -, -⟩ := frcells n1
  obtain ⟨D, hD⟩ : ∃ D, w.heap.size = D := ⟨_, rfl⟩
  rw [hD] at d0 d1 H1
  have HD := Lib.hid hD
  have S1 := Lib.hid s1
  unfold frO at x1
  clear h ho hs ht T1 s1 n1 b1 hC hBC hD
  by_cases hlt : n < q
  · have hd : decide ((n : Int) < (q : Int)) = true := by simp; omega
    have hd2 : decide (n < q) = true := by simp; omega
    obtain ⟨k, hk⟩ : ∃ k, q = n + k := ⟨q - n, by omega⟩
    have hk1 : q - n = k := by omega
    have hk2 : (q : Int) - (n : Int) = (k : Int) := by omega
    rw [hk1] at hlo ⊢
    have H2 := Lib.hid (fun w3 v3 r g => (H1.out.app (w2 := w3) (v2 := v3) ⟨⟨2, n, k, []⟩, none, 0⟩ (imOk_gap B w1 n k) r g))
    have HR := Lib.hid (H1.out.row (imO ⟨⟨2, n, k, []⟩, none, 0⟩))
    have HI := Lib.hid (by have := im_lit w1 C ⟨⟨2, n, k, []⟩, none, 0⟩ H1.out.hC; rw [S1.out] at this; exact this)
    have Htl : Hid (tells n q evs = [⟨2, n, k, []⟩, ⟨1, q, 0, evs⟩]) := Lib.hid (by unfold tells; rw [if_pos hlt, hk1]; rfl)
    have HC1 := Lib.hid H1.out.hC
    have Hk := Lib.hid hk
    clear hk hk1 hlt
    rw [x1] at c0 c1 c2 c3 c4 c5 d0 d1 f2 f4
    rw [← HD.out] at d0 d1
    have hlI : (l ++ [(⟨⟨2, n, k, []⟩, none, 0⟩ : Im)]).length = l.length + 1 := by simp
    go_enter Tryd.func36, Tryd.ntmps36
    go_wp2_with (at_builtin; refine wpList_append_im rfl _ _ rfl C C _ _ rfl l [⟨⟨2, n, k, []⟩, none, 0⟩] ?_ ?_ rfl ?_ (by simp; omega) ?_)
    · rw [← x1]; exact HR.out
    · rw [← x1]; have := HC1.out; simp; omega
    · rw [← x1]; exact HI.out
    · intro ao3 cap3 w3 r3 g3
      rw [← x1] at g3
      have t3 := H2.out w3 _ (by rw [hlI]; exact r3) g3
      have T3 := Lib.hid t3
      obtain ⟨c0', c1', c2', c3', c4', c5'⟩ := t3.hu.cells
      simp only at c2' c4'
      have f2' := t3.hu.free 2
      have f4' := t3.hu.free 4
      obtain ⟨d0', d1', -, -⟩ := frcells t3.fr
      rw [← HD.out] at d0' d1'
      clear t3 r3 g3 H2 HR HI c0 c1 c2 c3 c4 c5 d0 d1 f2 f4 x1 c0' c1' c3' c5'
      have t4 := T3.out.set 4 (.int .u64 ((lo : Int) + (k : Int))) ⟨tld, rst, n, sk, lo + k⟩ rfl (by simp)
      have t5 := t4.set 2 (.int .u64 ((q : Int) + 1)) ⟨tld, rst, q + 1, sk, lo + k⟩ rfl (by simp)
      obtain ⟨W5, x5⟩ : ∃ W5, W5 = (w3.setCell ⟨b, 4, none⟩ (.int .u64 ((lo : Int) + (k : Int)))).setCell ⟨b, 2, none⟩ (.int .u64 ((q : Int) + 1)) := ⟨_, rfl⟩
      have S5 := Lib.hid (show W5.heap.size = w3.heap.size by rw [x5]; simp)
      rw [← x5] at t5
      have T5 := Lib.hid t5
      clear t4 t5
      go_wp2_with (at_builtin; refine wpList_append_im rfl _ _ rfl C C _ _ rfl (l ++ [⟨⟨2, n, k, []⟩, none, 0⟩]) [⟨⟨1, q, 0, evs⟩, ao, cap⟩] ?_ ?_ rfl ?_ (by simp; omega) ?_)
      · rw [← x5, hlI]; have := T5.out.row (imO ⟨⟨1, q, 0, evs⟩, ao, cap⟩); rw [hlI] at this; exact this
      · rw [← x5]; have := T5.out.hC; simp; omega
      · rw [← x5]; have := im_lit W5 C ⟨⟨1, q, 0, evs⟩, ao, cap⟩ T5.out.hC; rw [S5.out] at this; exact this
      · intro ao6 cap6 w6 r6 g6
        rw [← x5] at g6
        have T6 := Lib.hid (T5.out.app (w2 := w6) (v2 := .slice ao6 (l.length + 1 + 1) cap6) _ T5.out.ev (by simpa using r6) g6)
        clear r6 g6 x5 T5
        go_wp2_with fail
        go_ret
        refine ⟨_, _, rfl, T6.out.own, ?_, T6.out.hu, T6.out.foot⟩
        rw [Htl.out]; simp
  · have hnq : n = q := by omega
    have hd : decide ((n : Int) < (q : Int)) = false := by simp; omega
    have hd2 : decide (n < q) = false := by simp; omega
    have Htl : Hid (tells n q evs = [⟨1, q, 0, evs⟩]) := Lib.hid (by unfold tells; rw [if_neg hlt]; rfl)
    have hk0 : q - n = 0 := by omega
    rw [hk0]
    have t5 := H1.out.set 2 (.int .u64 ((q : Int) + 1)) ⟨tld, rst, q + 1, sk, lo⟩ rfl (by simp)
    obtain ⟨W5, x5⟩ : ∃ W5, W5 = w1.setCell ⟨b, 2, none⟩ (.int .u64 ((q : Int) + 1)) := ⟨_, rfl⟩
    have S5 := Lib.hid (show W5.heap.size = w.heap.size + 1 by rw [x5, ← S1.out]; simp)
    rw [← x5] at t5
    have T5 := Lib.hid t5
    rw [x1] at c0 c1 c2 c3 c4 c5 d0 d1 f2 f4
    rw [← HD.out] at d0 d1
    clear t5 H1 hlt hnq hk0 hlo
    go_enter Tryd.func36, Tryd.ntmps36
    go_wp2_with (at_builtin; refine wpList_append_im rfl _ _ rfl C C _ _ rfl l [⟨⟨1, q, 0, evs⟩, ao, cap⟩] ?_ ?_ rfl ?_ (by simp; omega) ?_)
    · rw [← x1, ← x5]; exact T5.out.row _
    · rw [← x1, ← x5]; have := T5.out.hC; simp; omega
    · rw [← x1, ← x5]; have := im_lit W5 C ⟨⟨1, q, 0, evs⟩, ao, cap⟩ T5.out.hC; rw [S5.out] at this; exact this
    · intro ao6 cap6 w6 r6 g6
      rw [← x1, ← x5] at g6
      have T6 := Lib.hid (T5.out.app (w2 := w6) (v2 := .slice ao6 (l.length + 1) cap6) _ T5.out.ev (by simpa using r6) g6)
      clear r6 g6 x5 T5 c0 c1 c2 c3 c4 c5 d0 d1 f2 f4 x1
      go_wp2_with fail
      go_ret
      refine ⟨_, _, rfl, T6.out.own, ?_, T6.out.hu, T6.out.foot⟩
      rw [Htl.out]; simp

end Go.Proofs.YtobioiicbdhboaaDoor

namespace Go.Proofs.YtobioiicbdhboaaDoor
open Go.RowKit
set_option linter.unusedVariables false
set_option linter.unusedSimpArgs false

/-- The state of search's loop. -/
structure HL (w wr : World) (B b t : Nat) (v : Value) (s : HS) (cl : Bool) (x3 : Value) (k : Nat) (l : List Im) (st : HS) : Prop where
  hu : HuntAt wr B b t v ⟨[], s.rest, st.next, st.skip, st.lost⟩ cl
  own : OwnI B w.heap.size wr x3 l
  told : l.map Im.it = st.told
  rest : st.rest = s.rest.drop k
  le : k ≤ s.rest.length
  go : st.go cl = s.go cl
  foot : Only w wr (HF False B b w)
  n : st.next ≤ 4294967296
  sk : st.skip ≤ s.skip + k
  lo : st.lost ≤ s.lost + 4294967296 * k
  cnt : l.length ≤ 2 * k
  evl : EvL wr
  vlt : 0 < B
  hB : B ≤ w.heap.size
theorem HL.below {w wr wr' : World} {B b t : Nat} {v : Value} {s : HS} {cl : Bool} {x3 : Value} {k : Nat} {l : List Im} {st : HS} (h : HL w wr B b t v s cl x3 k l st) (hb : Below wr.heap.size wr wr') : HL w wr' B b t v s cl x3 k l st :=
  ⟨h.hu.below hb, h.own.below hb, h.told, h.rest, h.le, h.go, HF.trans h.foot (Only.of_below hb _), h.n, h.sk, h.lo, h.cnt, h.evl.below hb, h.vlt, h.hB⟩
theorem HL.drewN {w wr : World} {B b t : Nat} {v : Value} {s : HS} {cl : Bool} {x3 : Value} {k : Nat} {l : List Im} {st : HS} (h : HL w wr B b t v s cl x3 k l st) (q : Nat) : HL w (wr.drewN q) B b t v s cl x3 k l st := h.below (below_drewN (Below.refl _ _) q)
theorem HL.skipped {w wr : World} {B b t : Nat} {v : Value} {s : HS} {cl : Bool} {x3 : Value} {k : Nat} {l : List Im} {st : HS} (h : HL w wr B b t v s cl x3 k l st) (hk : k < s.rest.length) (hnf : ¬ st.finds) (hnw : ¬ ((frameR st.rest).2.2.2 = 2 ∧ cl = false)) :
    HL w (wr.setCell ⟨b, 3, none⟩ (.int .u64 ((st.skip : Int) + 1))) B b t v s cl x3 (k + 1) l st.skip1 := by
  have hr : st.rest ≠ [] := by
    rw [h.rest]
    intro e
    have := congrArg List.length e
    rw [List.length_drop, List.length_nil] at this
    omega
  obtain ⟨h1, ho⟩ := h.hu.set (s' := ⟨[], s.rest, st.skip1.next, st.skip1.skip, st.skip1.lost⟩) (v' := v) (cl' := cl) 3 (.int .u64 ((st.skip : Int) + 1)) h.hu.row (by simp [HS.skip1])
  have ho' : Only wr (wr.setCell ⟨b, 3, none⟩ (.int .u64 ((st.skip : Int) + 1))) (HF False B b wr) := ho.mono fun j _ e => ⟨by rw [e]; exact h.hu.base, .inl e⟩
  refine ⟨h1, h.own.hf h.hu.tag ho', h.told, ?_, hk, ?_, HF.trans h.foot ho', h.n, ?_, ?_, ?_, h.evl.belowB (HF.below ho' (Nat.le_of_lt (Nat.lt_of_le_of_lt h.hu.base h.hu.lt))) h.vlt, h.vlt, h.hB⟩
  · show st.rest.drop 1 = _
    rw [h.rest, List.drop_drop]
  · rw [← h.go, HS.go_some (HS.step_skips hr hnf hnw)]
  · show st.skip + 1 ≤ _
    have := h.sk; omega
  · show st.lost ≤ _
    have := h.lo; omega
  · have := h.cnt; omega
theorem HL.tolds {w wr w2 : World} {B b t : Nat} {v : Value} {s : HS} {cl : Bool} {x3 : Value} {k : Nat} {l : List Im} {st : HS} (h : HL w wr B b t v s cl x3 k l st) (hf : st.finds) {vt : Value} {l' : List Im} (ho : OwnI B w.heap.size w2 vt l') (hm : l'.map Im.it = l.map Im.it ++ tells st.next (frameR st.rest).1 (frameR st.rest).2.1)
    (hu : HuntAt w2 B b t v ⟨[], s.rest, (frameR st.rest).1 + 1, st.skip, st.lost + ((frameR st.rest).1 - st.next)⟩ cl) (hF : Only wr w2 (TF b w.heap.size wr)) : HL w w2 B b t v s cl vt (k + (frameR st.rest).2.2.1) l' st.told1 := by
  have hl := frame_len hf.1
  have hrl : st.rest.length = s.rest.length - k := by rw [h.rest, List.length_drop]
  have hF' : Only w w2 (HF False B b w) := h.foot.trans hF (fun j hj e => by
    rcases e with e | ⟨e, -⟩
    · exact ⟨by rw [e]; exact h.hu.base, .inl e⟩
    · omega)
  have htl : (tells st.next (frameR st.rest).1 (frameR st.rest).2.1).length ≤ 2 := by unfold tells; split <;> simp
  have hll : l'.length = l.length + (tells st.next (frameR st.rest).1 (frameR st.rest).2.1).length := by
    have := congrArg List.length hm
    simpa using this
  refine ⟨hu, ho, ?_, ?_, ?_, ?_, hF', ?_, ?_, ?_, ?_, h.evl.belowB (hF.below (Nat.le_of_lt (Nat.lt_of_le_of_lt h.hu.base h.hu.lt)) (fun j e => ?_)) h.vlt, h.vlt, h.hB⟩
  · rw [hm, h.told]; rfl
  · show st.rest.drop _ = _
    rw [h.rest, List.drop_drop]
  · omega
  · rw [← h.go, HS.go_some (HS.step_finds hf)]
  · show (frameR st.rest).1 + 1 ≤ _
    omega
  · show st.skip ≤ _
    have := h.sk; omega
  · show st.lost + _ ≤ _
    have := h.lo; omega
  · have := h.cnt; omega
  · rcases e with e | ⟨e, -⟩
    · rw [e]; exact h.hu.base
    · have := h.hB; omega
/-- The bytes that are left, in new memory. -/
theorem HL.fin {w wr : World} {B b t : Nat} {v : Value} {s : HS} {cl : Bool} {x3 : Value} {k : Nat} {l : List Im} {st : HS} (h : HL w wr B b t v s cl x3 k l st) (hst : st.step cl = none) (X : ByteArray) (hX : X.data.toList = s.rest.drop k) (hXs : X.size ≤ maxLen) :
    OwnI B w.heap.size ((Lib.bytesWorld wr 5 X).setCell ⟨b, 1, none⟩ (.slice (some ⟨wr.heap.size, 0, none⟩) X.size (grownCap wr X.size 0 5))) x3 l ∧
    HuntAt ((Lib.bytesWorld wr 5 X).setCell ⟨b, 1, none⟩ (.slice (some ⟨wr.heap.size, 0, none⟩) X.size (grownCap wr X.size 0 5))) B b t (.slice (some ⟨wr.heap.size, 0, none⟩) X.size (grownCap wr X.size 0 5)) (s.go cl) cl ∧
    l.map Im.it = (s.go cl).told ∧
    Only w ((Lib.bytesWorld wr 5 X).setCell ⟨b, 1, none⟩ (.slice (some ⟨wr.heap.size, 0, none⟩) X.size (grownCap wr X.size 0 5))) (HF False B b w) := by
  have hgo : s.go cl = st := by rw [← h.go, HS.go_none hst]
  have h1 := h.below (bytes_below wr 5 X)
  have hb := bts_conv wr B (Nat.le_of_lt (Nat.lt_of_le_of_lt h.hu.base h.hu.lt)) X hXs
  rw [hX, ← h.rest] at hb
  obtain ⟨h2, ho⟩ := h1.hu.set (s' := st) (v' := .slice (some ⟨wr.heap.size, 0, none⟩) X.size (grownCap wr X.size 0 5)) (cl' := cl) 1 (.slice (some ⟨wr.heap.size, 0, none⟩) X.size (grownCap wr X.size 0 5)) hb (by simp)
  have ho' := ho.mono (T := HF False B b (Lib.bytesWorld wr 5 X)) fun j _ e => ⟨by rw [e]; exact h1.hu.base, .inl e⟩
  rw [hgo]
  exact ⟨h1.own.hf h1.hu.tag ho', h2, h.told, HF.trans h1.foot ho'⟩

set_option maxRecDepth 100000 in
set_option maxHeartbeats 8000000 in
theorem hsearch_any {w : World} {B b t : Nat} {v : Value} {s : HS} {cl : Bool} (h : HuntAt w B b t v s cl) (hB : B ≤ w.heap.size) (hL : EvL w) (hLB : 0 < B) (h0 : s.told = []) (hr : s.rest.length ≤ 100000) (hn : s.next ≤ 4294967296) (hsk : s.skip ≤ 1000000) (hlo : s.lost ≤ 4294967296 * 1000000) :
    Calls Tryd.prog 26 #[.pointer (some ⟨b, 0, none⟩)] w fun r w' =>
      ∃ vt l v', r = .returned vt ∧ OwnI B w.heap.size w' vt l ∧ HuntAt w' B b t v' (s.go cl) cl ∧ l.map Im.it = (s.go cl).told ∧ Only w w' (HF False B b w) := by
  obtain ⟨S, hS⟩ : ∃ S : ByteArray, S = ⟨s.rest.toArray⟩ := ⟨_, rfl⟩
  have hSl : S.data.toList = s.rest := by rw [hS]
  have hSz : S.size = s.rest.length := by rw [hS, mk_size]
  have P0 : HL w w B b t v s cl (.slice none 0 0) 0 [] s :=
    ⟨⟨h.blk, h.row, h.tab, h.base⟩, ownI_nil _ _ _, by simp [h0], by simp, Nat.zero_le _, rfl, Only.refl _ _, hn, by omega, by omega, by simp, hL, hLB, hB⟩
  have HP0 := Lib.hid P0
  have hcv := h.row.conv
  rw [← hS] at hcv
  obtain ⟨ao0, cap0, hv⟩ := h.row.shape
  obtain ⟨c0, c1, c2, c3, c4, c5⟩ := h.cells
  rw [hv] at c1 hcv
  have HSl := Lib.hid hSl
  have HSz := Lib.hid hSz
  have hS1 : S.size ≤ 100000 := by omega
  clear hS hSl hSz P0 h hL hr h0 hn hv
  go_enter Tryd.func26, Tryd.ntmps26
  go_wp2_with fail
  go_step3
  go_wp2_with fail
  go_step3
  go_wp2_with fail
  go_loopw [3, 5] (fun x3 x5 wr => ∃ (k : Nat) (l : List Im) (st : HS), x5 = .int .i64 k ∧ Hid (HL w wr B b t v s cl x3 k l st)) (fun _ x5 _ => S.size - (intOf x5).toNat)
  case atStart => exact ⟨0, [], s, rfl, HP0⟩
  case round =>
    clear HP0 hcv c0 c1 c2 c3 c4 c5
    obtain ⟨k, l, st, rfl, P⟩ := hrel
    obtain ⟨ax, cx, hx⟩ := P.out.own.shape
    subst hx
    have hkle : k ≤ S.size := by rw [HSz.out]; exact P.out.le
    by_cases hlt : k < S.size
    · have hks : k < s.rest.length := by rw [← HSz.out]; exact hlt
      have HR := Lib.hid (by have := fread_tag t S (by omega) k hkle wr P.out.hu.tab P.out.evl; rw [HSl.out, ← P.out.rest] at this; exact this)
      obtain ⟨R, hR⟩ : ∃ R, frameR st.rest = R := ⟨_, rfl⟩
      rw [hR] at HR
      obtain ⟨q, evs, len, c⟩ := R
      simp only at HR
      obtain ⟨nx, hnx⟩ : ∃ nx, nx = nextP k (q, evs, len, c) := ⟨_, rfl⟩
      rw [← hnx] at HR
      have HRR := Lib.hid hR
      have Hnx := Lib.hid hnx
      have Hks := Lib.hid hks
      obtain ⟨c0, c1, c2, c3, c4, c5⟩ := P.out.hu.cells
      try simp only at c0
      clear c1 c2 c3 c4 c5 hR hnx hks
      go_wp2_with fail
      refine HR.out.mono ?_
      rintro e w4 ⟨ao, cap, rfl, s4, t4, b4⟩
      obtain ⟨w5, x5⟩ : ∃ w5, w5 = w4.alloc (frO q ao evs.length cap) := ⟨_, rfl⟩
      obtain ⟨s5, n5, b5⟩ := new_size x5
      have P5 := Lib.hid (P.out.below (b4.trans (b5.mono b4.size)))
      have S5 := Lib.hid (s4.below b5)
      have T5 := Lib.hid (t4.below b5)
      obtain ⟨c0, c1, c2, c3, c4, c5⟩ := P5.out.hu.cells
      have f3 := P5.out.hu.free 3
      obtain ⟨d0, d1, -, -⟩ := frcells n5
      try simp only at c0 c1 c2 c3 c4 c5
      clear P HR s4 t4 b4 s5 n5 b5
      unfold frO at x5
      go_wp2_with fail
      rw [← x5]
      clear x5
      by_cases hc : c = 0
      · have hcb : (c == 0) = true := by rw [hc]; rfl
        have hc2 : (c == 2) = false := by rw [hc]; rfl
        have hfl := frame_len (L := st.rest) (by rw [HRR.out]; exact hc)
        rw [HRR.out] at hfl
        simp only at hfl
        have hnx : nx = k + len := by rw [Hnx.out]; simp [nextP, hc]
        by_cases hge : st.next ≤ q
        · have hd1 : decide ((st.next : Int) ≤ (q : Int)) = true := by simp; omega
          have hd2 : decide (st.next ≤ q) = true := by simp; omega
          have HFi := Lib.hid (show st.finds from ⟨by rw [HRR.out]; exact hc, by rw [HRR.out]; exact hge⟩)
          have hlo5 := P5.out.lo
          have hcn := P5.out.cnt
          have HT := Lib.hid (fun m => htell_any (P5.out.drewN m).hu (P5.out.drewN m).own (Nat.le_trans P5.out.foot.size (Nat.le_refl _)) P5.out.hB q ao cap evs (S5.out.drewN m) T5.out (by omega) hge (by show st.lost + (q - st.next) < _; omega) (by omega))
          clear hlo5 hcn f3
          go_quiet (fail)
          go_wp2_with fail
          refine (HT.out _).mono ?_
          rintro e w6 ⟨vt6, l6, rfl, o6, m6, h6, g6⟩
          obtain ⟨ax6, cx6, hx6⟩ := o6.shape
          have P6 := Lib.hid ((P5.out.drewN _).tolds (w2 := w6) HFi.out o6 (by rw [HRR.out]; exact m6) (by rw [HRR.out]; exact h6) g6)
          rw [HRR.out] at P6
          simp only at P6
          subst hx6
          clear o6 m6 h6 g6 P5 HT S5 T5 c0 c1 c2 c3 c4 c5 d0 d1
          go_wp2_with fail
          go_roundw
          case rel => exact ⟨k + len, _, _, by go_num, P6⟩
          case measure => simp [intOf]; omega
        · have hd1 : decide ((st.next : Int) ≤ (q : Int)) = false := by simp; omega
          have hd2 : decide (st.next ≤ q) = false := by simp; omega
          have HNF := Lib.hid (show ¬ st.finds from fun h => hge (by have := h.2; rw [HRR.out] at this; exact this))
          have HNW := Lib.hid (show ¬ ((frameR st.rest).2.2.2 = 2 ∧ cl = false) from fun h => by have := h.1; rw [HRR.out] at this; simp only at this; omega)
          have hkk := Hks.out
          have hsk5 := P5.out.sk
          have PSk := Lib.hid (fun m => (P5.out.drewN m).skipped Hks.out HNF.out HNW.out)
          clear P5 S5 T5 Hnx
          go_quiet (fail)
          go_wp2_with fail
          go_roundw
          case rel => exact ⟨k + 1, _, _, by go_num, Lib.hid (PSk.out _)⟩
          case measure => simp [intOf]; omega
      · have hcb : (c == 0) = false := by simpa using hc
        have HNF := Lib.hid (show ¬ st.finds from fun h => hc (by have := h.1; rw [HRR.out] at this; exact this))
        by_cases hc2 : c = 2
        · have hcb2 : (c == 2) = true := by rw [hc2]; rfl
          cases cl with
          | true =>
            have HNW := Lib.hid (show ¬ ((frameR st.rest).2.2.2 = 2 ∧ true = false) from fun h => by cases h.2)
            have hkk := Hks.out
            have hsk5 := P5.out.sk
            have PSk := Lib.hid (fun m => (P5.out.drewN m).skipped Hks.out HNF.out HNW.out)
            clear P5 S5 T5 Hnx
            go_quiet (fail)
            go_wp2_with fail
            go_roundw
            case rel => exact ⟨k + 1, _, _, by go_num, Lib.hid (PSk.out _)⟩
            case measure => simp [intOf]; omega
          | false =>
            have HW := Lib.hid (show st.step false = none from HS.step_waits (by rw [HRR.out]; exact hc2))
            clear HNF S5 T5 Hnx
            go_quiet (fail)
            obtain ⟨w7, x7⟩ : ∃ w7, w7 = w5.drewN nq := ⟨_, rfl⟩
            have P7 := Lib.hid (P5.out.drewN nq)
            have g5 : w7.cell? ⟨b, 5, none⟩ = some (.bool false) := by rw [x7]; exact c5
            rw [← x7] at P7 ⊢
            clear c0 c1 c2 c3 c4 c5 d0 d1 f3 P5 x7
            have hX := extract_list S k
            rw [HSl.out] at hX
            have F7 := P7.out.fin HW.out (S.extract k S.size) hX (by rw [ByteArray.size_extract]; unfold maxLen; omega)
            have P8 := P7.out.below (bytes_below w7 5 (S.extract k S.size))
            have hcv := Lib.run_convert_string_bytes (P := Tryd.prog) w7 9 58 5 (S.extract k S.size) Tryd.underlying9 Tryd.underlying58 Tryd.underlying5
            obtain ⟨X, eX⟩ : ∃ X, S.extract k S.size = X := ⟨_, rfl⟩
            rw [eX] at F7 P8 hcv
            generalize Lib.bytesWorld w7 5 X = w8 at *
            generalize grownCap w7 X.size 0 5 = cp at *
            obtain ⟨c0, c1, c2, c3, c4, c5⟩ := P8.hu.cells
            have f1 := P8.hu.free 1
            have HF7 := Lib.hid F7
            clear F7 P8 hX P7
            go_wp2_with fail
            go_ret
            exact ⟨_, _, _, rfl, HF7.out⟩
        · have hcb2 : (c == 2) = false := by simpa using hc2
          have HNW := Lib.hid (show ¬ ((frameR st.rest).2.2.2 = 2 ∧ cl = false) from fun h => hc2 (by have := h.1; rw [HRR.out] at this; exact this))
          have hkk := Hks.out
          have hsk5 := P5.out.sk
          have PSk := Lib.hid (fun m => (P5.out.drewN m).skipped Hks.out HNF.out HNW.out)
          clear P5 S5 T5 Hnx
          go_quiet (fail)
          go_wp2_with fail
          go_roundw
          case rel => exact ⟨k + 1, _, _, by go_num, Lib.hid (PSk.out _)⟩
          case measure => simp [intOf]; omega
    · have hkk : k = S.size := by omega
      have HW := Lib.hid (show st.step cl = none from HS.step_end (by
        rw [P.out.rest]
        exact List.drop_of_length_le (by rw [← HSz.out]; omega)))
      obtain ⟨w7, x7⟩ : ∃ w7, wr = w7 := ⟨_, rfl⟩
      have P7 := P
      rw [x7] at P7 ⊢
      clear P x7
      have hd1 : decide ((k : Int) < (S.size : Int)) = false := by simp; omega
      have hd2 : decide (k < S.size) = false := by simp; omega
      clear hkk hlt
      have hX := extract_list S k
      rw [HSl.out] at hX
      have F7 := P7.out.fin HW.out (S.extract k S.size) hX (by rw [ByteArray.size_extract]; unfold maxLen; omega)
      have P8 := P7.out.below (bytes_below w7 5 (S.extract k S.size))
      have hcv := Lib.run_convert_string_bytes (P := Tryd.prog) w7 9 58 5 (S.extract k S.size) Tryd.underlying9 Tryd.underlying58 Tryd.underlying5
      obtain ⟨X, eX⟩ : ∃ X, S.extract k S.size = X := ⟨_, rfl⟩
      rw [eX] at F7 P8 hcv
      generalize Lib.bytesWorld w7 5 X = w8 at *
      generalize grownCap w7 X.size 0 5 = cp at *
      obtain ⟨c0, c1, c2, c3, c4, c5⟩ := P8.hu.cells
      have f1 := P8.hu.free 1
      have HF7 := Lib.hid F7
      clear F7 P8 hX P7
      go_wp2_with fail
      go_ret
      exact ⟨_, _, _, rfl, HF7.out⟩

end Go.Proofs.YtobioiicbdhboaaDoor

namespace Go.Proofs.YtobioiicbdhboaaDoor
open Go.RowKit
set_option linter.unusedVariables false
set_option linter.unusedSimpArgs false

theorem hfeed_nil (w : World) (x : Value) : Calls Tryd.prog 13 #[.pointer none, x] w fun e w' => e = .returned (.slice none 0 0) ∧ w = w' := by
  go_enter Tryd.func13, Tryd.ntmps13
  go_wp2
  go_ret
  exact ⟨rfl, rfl⟩
theorem hclose_nil (w : World) : Calls Tryd.prog 14 #[.pointer none] w fun e w' => e = .returned (.slice none 0 0) ∧ w = w' := by
  go_enter Tryd.func14, Tryd.ntmps14
  go_wp2
  go_ret
  exact ⟨rfl, rfl⟩
theorem hfeed_closed {w : World} {B b t : Nat} {v : Value} {s : HS} (h : HuntAt w B b t v s true) (x : Value) : Calls Tryd.prog 13 #[.pointer (some ⟨b, 0, none⟩), x] w fun e w' => e = .returned (.slice none 0 0) ∧ w = w' := by
  obtain ⟨c0, c1, c2, c3, c4, c5⟩ := h.cells
  clear h
  go_enter Tryd.func13, Tryd.ntmps13
  go_wp2
  go_ret
  exact ⟨rfl, rfl⟩
theorem hclose_closed {w : World} {B b t : Nat} {v : Value} {s : HS} (h : HuntAt w B b t v s true) : Calls Tryd.prog 14 #[.pointer (some ⟨b, 0, none⟩)] w fun e w' => e = .returned (.slice none 0 0) ∧ w = w' := by
  obtain ⟨c0, c1, c2, c3, c4, c5⟩ := h.cells
  clear h
  go_enter Tryd.func14, Tryd.ntmps14
  go_wp2
  go_ret
  exact ⟨rfl, rfl⟩

/-- What a hunter's state keeps to. -/
structure HS.Small (s : HS) (N : Nat) : Prop where
  told : s.told = []
  n : s.next ≤ 4294967296
  sk : s.skip + s.rest.length ≤ N
  lo : s.lost ≤ 4294967296 * N
/-- One that told nothing yet. -/
def HS.mute (s : HS) : HS := ⟨[], s.rest, s.next, s.skip, s.lost⟩
theorem HuntAt.mute {w : World} {B b t : Nat} {v : Value} {s : HS} {cl : Bool} (h : HuntAt w B b t v s cl) : HuntAt w B b t v s.mute cl := ⟨h.blk, h.row, h.tab, h.base⟩
theorem HS.lost_small (cl : Bool) (s : HS) : s.next ≤ 4294967296 → (s.go cl).skip + (s.go cl).rest.length ≤ s.skip + s.rest.length ∧ (s.go cl).lost + s.next ≤ s.lost + (s.go cl).next := by
  induction s using HS.ind cl with
  | stop s h => rw [HS.go_none h]; intro h; exact ⟨by omega, by omega⟩
  | next s t h ih =>
    intro hn
    rw [HS.go_some h]
    obtain ⟨h0, h | h⟩ := HS.step_cases h
    · have hf := frame_len h.1.1
      have hq := h.1.2
      have e1 : t.next = (frameR s.rest).1 + 1 := by rw [h.2]; rfl
      have e2 : t.skip = s.skip := by rw [h.2]; rfl
      have e3 : t.lost = s.lost + ((frameR s.rest).1 - s.next) := by rw [h.2]; rfl
      have e4 : t.rest.length = s.rest.length - (frameR s.rest).2.2.1 := by rw [h.2]; exact List.length_drop
      obtain ⟨a, b⟩ := ih (by omega)
      exact ⟨by omega, by omega⟩
    · have hp : 0 < s.rest.length := List.length_pos_iff.2 h0
      have e1 : t.next = s.next := by rw [h.2.2]; rfl
      have e2 : t.skip = s.skip + 1 := by rw [h.2.2]; rfl
      have e3 : t.lost = s.lost := by rw [h.2.2]; rfl
      have e4 : t.rest.length = s.rest.length - 1 := by rw [h.2.2]; exact List.length_drop
      obtain ⟨a, b⟩ := ih (by omega)
      exact ⟨by omega, by omega⟩

set_option maxRecDepth 100000 in
set_option maxHeartbeats 4000000 in
theorem hclose_any {w : World} {B b t : Nat} {v : Value} {s : HS} (h : HuntAt w B b t v s false) (hB : B ≤ w.heap.size) (hL : EvL w) (hLB : 0 < B) (h0 : s.told = []) (hr : s.rest.length ≤ 100000) (hn : s.next ≤ 4294967296) (hsk : s.skip ≤ 1000000) (hlo : s.lost ≤ 4294967296 * 1000000) :
    Calls Tryd.prog 14 #[.pointer (some ⟨b, 0, none⟩)] w fun r w' =>
      ∃ vt l v', r = .returned vt ∧ OwnI B w.heap.size w' vt l ∧ HuntAt w' B b t v' (s.go true) true ∧ l.map Im.it = (s.go true).told ∧ Only w w' (HF False B b w) := by
  obtain ⟨c0, c1, c2, c3, c4, c5⟩ := h.cells
  have f5 := h.free 5
  obtain ⟨h1, ho⟩ := h.set (s' := s) (v' := v) (cl' := true) 5 (.bool true) h.row (by simp)
  have ho' := ho.mono (T := HF False B b w) fun j _ e => ⟨by rw [e]; exact h.base, .inl e⟩
  have hsz : (w.setCell ⟨b, 5, none⟩ (.bool true)).heap.size = w.heap.size := by simp
  have HS1 := Lib.hid (hsearch_any h1 (by rw [hsz]; exact hB) (hL.belowB (HF.below ho' hB) hLB) hLB h0 hr hn hsk hlo)
  rw [hsz] at HS1
  have HO := Lib.hid ho'
  obtain ⟨w1, x1⟩ : ∃ w1, w1 = w.setCell ⟨b, 5, none⟩ (.bool true) := ⟨_, rfl⟩
  rw [← x1] at HS1 HO
  clear h h1 ho ho' hL hsz
  go_enter Tryd.func14, Tryd.ntmps14
  go_wp2_with fail
  rw [← x1]
  clear x1 c0 c1 c2 c3 c4 c5 f5
  refine HS1.out.mono ?_
  rintro r w2 ⟨vt, l, v', rfl, o2, h2, m2, g2⟩
  have F2 := Lib.hid (HF.trans HO.out g2)
  have O2 := Lib.hid o2
  have H2 := Lib.hid h2
  have M2 := Lib.hid m2
  obtain ⟨ax, cx, rfl⟩ := o2.shape
  clear o2 h2 m2 g2 HS1 HO
  go_wp2_with fail
  go_ret
  exact ⟨_, _, _, rfl, O2.out, H2.out, M2.out, F2.out⟩

set_option maxRecDepth 100000 in
set_option maxHeartbeats 4000000 in
theorem hfeed_foot {w : World} {B b t : Nat} {v : Value} {s : HS} (h : HuntAt w B b t v s false) (hB : B ≤ w.heap.size) (hL : EvL w) (hLB : 0 < B) (h0 : s.told = []) (hw : s.rest = [] ∨ (frameR s.rest).2.2.2 = 2) (X : ByteArray) (hr : s.rest.length + X.size ≤ 100000) (hn : s.next ≤ 4294967296) (hsk : s.skip ≤ 1000000) (hlo : s.lost ≤ 4294967296 * 1000000) :
    Calls Tryd.prog 13 #[.pointer (some ⟨b, 0, none⟩), .string X] w fun r w' =>
      ∃ vt l v', r = .returned vt ∧ OwnI B w.heap.size w' vt l ∧ HuntAt w' B b t v' ((s.more X.data.toList).go false) false ∧ l.map Im.it = ((s.more X.data.toList).go false).told ∧ Only w w' (fun k => k = b ∨ v.ownBlock = some k) := by
  obtain ⟨ao, cap, hv⟩ := h.row.shape
  subst hv
  obtain ⟨c0, c1, c2, c3, c4, c5⟩ := h.cells
  obtain ⟨n, hnn⟩ : ∃ n, s.rest.length = n := ⟨_, rfl⟩
  have Hx := Lib.hid (show X.data.toList.length = X.size from rfl)
  have hrow := h.row
  have H := Lib.hid h
  have HR := Lib.hid hrow
  have HL := Lib.hid hL
  have H0 := Lib.hid h0
  have Hn := Lib.hid hn
  have Hnn := Lib.hid hnn
  rw [hnn] at c1 hr H HR ⊢
  -- behind append and store
  have HA : Hid (∀ ao' cap' w1, Bts w1 B (.slice ao' (n + X.size) cap') (s.rest ++ X.data.toList) → Only w w1 (fun k => (Value.slice ao n cap).ownBlock = some k) →
      w1.cell? ⟨b, 1, none⟩ = some (.slice ao n cap) ∧ w1.frozen? ⟨b, 1, none⟩ = false ∧ HuntAt (w1.setCell ⟨b, 1, none⟩ (.slice ao' (n + X.size) cap')) B b t (.slice ao' (n + X.size) cap') (s.more X.data.toList) false ∧ Only w (w1.setCell ⟨b, 1, none⟩ (.slice ao' (n + X.size) cap')) (fun k => k = b ∨ (Value.slice ao n cap).ownBlock = some k)) :=
    Lib.hid (fun ao' cap' w1 hb ho => by
      have hrow := HR.out
      have hT : ∀ k, (Value.slice ao n cap).ownBlock = some k → Tag w k 5 := fun k hk => (hrow.tag hk).2
      have hb1 : ¬ (Value.slice ao n cap).ownBlock = some b := fun e => (hT b e).ne H.out.tag (by decide) rfl
      have ht1 : ¬ (Value.slice ao n cap).ownBlock = some t := fun e => (hT t e).ne (tabK_tag H.out.tab) (by decide) rfl
      have hblk := (ho.block b H.out.lt hb1).trans H.out.blk
      have tg1 : Tag w1 b 60 := ⟨_, _, hblk⟩
      have ho2 := Only.setCell w1 b 1 (.slice ao' (n + X.size) cap') (fun k => k = b) rfl
      refine ⟨by simp [World.cell?, hblk], by simp [World.frozen?, hblk], ⟨?_, hb.only ho2 (fun k hk e => (hb.tag hk).2.ne tg1 (by decide) e), tabK_only (tabK_only H.out.tab ho ht1) ho2 (fun e => (tabK_tag (tabK_only H.out.tab ho ht1)).ne tg1 (by decide) e), H.out.base⟩, ?_⟩
      · rw [heap_setCell_same w1 b 1 _ _ _ hblk]; simp [HS.more]
      · exact (ho.mono fun k _ e => .inr e).trans ho2 (fun k _ e => .inl e))
  by_cases hst : 179 ≤ n
  · have hd1 : decide ((179 : Int) ≤ (n : Int)) = true := by simp; omega
    have hd2 : decide (179 ≤ n) = true := by simp; omega
    have hgo : (s.more X.data.toList).go false = s.more X.data.toList := by
      refine HS.go_stuck ?_ (by omega) _
      rcases hw with e | e
      · rw [e] at hnn; simp at hnn; omega
      · exact e
    have HG := Lib.hid hgo
    clear h hrow hL h0 hn hw hgo hst
    go_enter Tryd.func13, Tryd.ntmps13
    go_wp2_with (at_builtin; refine wpList_append_bts rfl _ _ rfl B _ rfl s.rest ?_ hB X rfl (by omega) ?_)
    · rw [hnn] at *
      exact HR.out
    · intro ao' cap' w1 hb ho
      try rw [hnn] at hb
      obtain ⟨g1, f1, hh, hf⟩ := HA.out ao' cap' w1 hb ho
      have HH := Lib.hid hh
      have HF1 := Lib.hid hf
      clear hh hf hb ho HA
      go_wp2_with fail
      go_ret
      refine ⟨_, [], _, rfl, ownI_nil _ _ _, by rw [HG.out]; exact HH.out, ?_, HF1.out⟩
      rw [HG.out]
      simp [HS.more, H0.out]
  · have hd1 : decide ((179 : Int) ≤ (n : Int)) = false := by simp; omega
    have hd2 : decide (179 ≤ n) = false := by simp; omega
    clear h hrow hL h0 hn hw hst
    go_enter Tryd.func13, Tryd.ntmps13
    go_wp2_with (at_builtin; refine wpList_append_bts rfl _ _ rfl B _ rfl s.rest ?_ hB X rfl (by omega) ?_)
    · rw [hnn] at *
      exact HR.out
    · intro ao' cap' w1 hb ho
      try rw [hnn] at hb
      obtain ⟨g1, f1, hh, hf⟩ := HA.out ao' cap' w1 hb ho
      obtain ⟨w2, x2⟩ : ∃ w2, w2 = w1.setCell ⟨b, 1, none⟩ (.slice ao' (n + X.size) cap') := ⟨_, rfl⟩
      rw [← x2] at hh hf
      have HS1 := Lib.hid (hsearch_any hh (Nat.le_trans hB hf.size) (HL.out.belowB (hf.below hB (fun k e => e.elim (fun e => by rw [e]; exact H.out.base) (fun e => (HR.out.tag e).1))) hLB) hLB (show (s.more X.data.toList).told = [] from H0.out) (by show (s.rest ++ X.data.toList).length ≤ _; rw [List.length_append, Hx.out]; omega) Hn.out hsk hlo)
      have HF1 := Lib.hid hf
      clear hh hf hb ho HA
      go_wp2_with fail
      rw [← x2]
      clear x2
      refine HS1.out.mono ?_
      rintro r w3 ⟨vt, l, v', rfl, o3, h3, m3, g3⟩
      have F3 := Lib.hid (HF1.out.trans g3 (fun k _ e => e.2.elim .inl (fun e => e.1.elim)))
      have O3 := Lib.hid (o3.base HF1.out.size)
      have H3 := Lib.hid h3
      have M3 := Lib.hid m3
      obtain ⟨ax, cx, rfl⟩ := o3.shape
      clear o3 h3 m3 g3 HS1 HF1 c0 c1 c2 c3 c4 c5 g1 f1
      go_wp2_with fail
      go_ret
      exact ⟨_, _, _, rfl, O3.out, H3.out, M3.out, F3.out⟩

theorem hfeed_any {w : World} {B b t : Nat} {v : Value} {s : HS} (h : HuntAt w B b t v s false) (hB : B ≤ w.heap.size) (hL : EvL w) (hLB : 0 < B) (h0 : s.told = []) (hw : s.rest = [] ∨ (frameR s.rest).2.2.2 = 2) (X : ByteArray) (hr : s.rest.length + X.size ≤ 100000) (hn : s.next ≤ 4294967296) (hsk : s.skip ≤ 1000000) (hlo : s.lost ≤ 4294967296 * 1000000) :
    Calls Tryd.prog 13 #[.pointer (some ⟨b, 0, none⟩), .string X] w fun r w' =>
      ∃ vt l v', r = .returned vt ∧ OwnI B w.heap.size w' vt l ∧ HuntAt w' B b t v' ((s.more X.data.toList).go false) false ∧ l.map Im.it = ((s.more X.data.toList).go false).told ∧ Only w w' (HF True B b w) := by
  refine (hfeed_foot h hB hL hLB h0 hw X hr hn hsk hlo).mono ?_
  rintro r w' ⟨vt, l, v', h1, h2, h3, h4, h5⟩
  exact ⟨vt, l, v', h1, h2, h3, h4, h5.mono fun k _ e => e.elim (fun e => ⟨by rw [e]; exact h.base, .inl e⟩) (fun e => HF.row h.row k e)⟩

end Go.Proofs.YtobioiicbdhboaaDoor
