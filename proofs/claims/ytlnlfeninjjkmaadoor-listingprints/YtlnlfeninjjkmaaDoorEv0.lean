/-
  The mathematics of event, over plain numbers and lists of bytes: numbers in decimal digits and the texts that are numbers, lines as words, kinds and their names, which events can be, and which event a line is. No condition.
-/
import Derived.Lib.ItoaNum
import Derived.Lib.ItoaLen
import Derived.Lib.ParseIntB
import Derived.Lib.Split
import Derived.Lib.IndexLaws
namespace Go.Proofs.YtlnlfeninjjkmaaDoor
open Go
set_option linter.unusedVariables false

/-! ### Numbers -/

/-- One digit more. -/
def dstep (acc : Nat) (c : UInt8) : Nat := acc * 10 + (c.toNat - 48)
/-- What digits say, behind a number. -/
def dval (acc : Nat) (l : List UInt8) : Nat := l.foldl dstep acc
theorem dval_nil (acc : Nat) : dval acc [] = acc := by unfold dval; rw [List.foldl_nil]
theorem dval_cons (acc : Nat) (c : UInt8) (r : List UInt8) : dval acc (c :: r) = dval (acc * 10 + (c.toNat - 48)) r := by unfold dval; rw [List.foldl_cons]; simp only [dstep]

/-- Are all of them digits? -/
def isDig (l : List UInt8) : Prop := ∀ c ∈ l, 48 ≤ c.toNat ∧ c.toNat ≤ 57

theorem head_app {l r : List UInt8} (h : l ≠ []) : (l ++ r).head? = l.head? := by
  cases l with
  | nil => exact absurd rfl h
  | cons => rfl

theorem dval_ge (l : List UInt8) : ∀ (acc : Nat), acc ≤ dval acc l := by
  induction l with
  | nil => intro acc; rw [dval_nil]; exact Nat.le_refl _
  | cons c r ih =>
    intro acc
    rw [dval_cons]
    refine Nat.le_trans ?_ (ih _)
    omega

theorem dval_app (l : List UInt8) (acc : Nat) (c : UInt8) : dval acc (l ++ [c]) = dval acc l * 10 + (c.toNat - 48) := by
  unfold dval
  rw [List.foldl_append, List.foldl_cons, List.foldl_nil]
  simp only [dstep]

theorem parseM_iff (M : Nat) (hM : M < 18446744073709551616) : ∀ (l : List UInt8) (acc n : Nat), acc ≤ M → (Lib.parseUintM M acc l = .ok n ↔ isDig l ∧ dval acc l = n ∧ n ≤ M)
  | [], acc, n, ha => by
    simp only [Lib.parseUintM, dval_nil, isDig, Lib.NumEnd.ok.injEq]
    constructor
    · rintro rfl; exact ⟨by simp, rfl, ha⟩
    · exact fun h => h.2.1
  | c :: r, acc, n, ha => by
    rw [dval_cons]; simp only [Lib.parseUintM]
    by_cases hd : 48 ≤ c.toNat ∧ c.toNat ≤ 57
    · rw [if_pos hd]
      have hg := dval_ge r (acc * 10 + (c.toNat - 48))
      have hdig : isDig (c :: r) ↔ isDig r := by
        constructor
        · exact fun h x hx => h x (List.mem_cons_of_mem _ hx)
        · intro h x hx
          rcases List.mem_cons.1 hx with rfl | hx
          · exact hd
          · exact h x hx
      by_cases h1 : 1844674407370955162 ≤ acc
      · rw [if_pos h1]
        constructor
        · intro h; cases h
        · rintro ⟨_, h2, h3⟩; omega
      · rw [if_neg h1]
        by_cases h2 : M < acc * 10 + (c.toNat - 48)
        · rw [if_pos h2]
          constructor
          · intro h; cases h
          · rintro ⟨_, h3, h4⟩; omega
        · rw [if_neg h2, parseM_iff M hM r _ n (by omega), hdig]
    · rw [if_neg hd]
      constructor
      · intro h; cases h
      · rintro ⟨h, _⟩; exact absurd (h c (List.mem_cons_self ..)) hd

theorem ofNat_dig (i : Nat) (h : i < 10) : (UInt8.ofNat (48 + i)).toNat = 48 + i := by
  simp only [UInt8.toNat_ofNat']; omega

theorem dec_dig : ∀ (k u : Nat), u ≤ k → isDig (Lib.decDigits u) ∧ dval 0 (Lib.decDigits u) = u ∧ Lib.decDigits u ≠ [] ∧ ((Lib.decDigits u).head? = some 48 → u = 0) := by
  intro k
  induction k with
  | zero =>
    intro u hu
    obtain rfl : u = 0 := by omega
    rw [Lib.decDigits_one (by omega)]
    refine ⟨?_, ?_, by simp, fun _ => rfl⟩
    · intro c hc; simp only [List.mem_singleton] at hc; subst hc; decide
    · simp only [dval_cons, dval_nil]; rfl
  | succ k ih =>
    intro u hu
    by_cases h : u < 10
    · rw [Lib.decDigits_one h]
      have e := ofNat_dig u h
      refine ⟨?_, ?_, by simp, ?_⟩
      · intro c hc; simp only [List.mem_singleton] at hc; subst hc; omega
      · simp only [dval_cons, dval_nil, e]; omega
      · intro hh
        simp only [List.head?_cons, Option.some.injEq] at hh
        rw [hh] at e
        have : (48 : UInt8).toNat = 48 := rfl
        omega
    · rw [Lib.decDigits, dif_neg h]
      obtain ⟨h1, h2, h3, h4⟩ := ih (u / 10) (by omega)
      have e := ofNat_dig (u % 10) (by omega)
      refine ⟨?_, ?_, by simp, ?_⟩
      · intro c hc
        rcases List.mem_append.1 hc with hc | hc
        · exact h1 c hc
        · simp only [List.mem_singleton] at hc; subst hc; omega
      · rw [dval_app, h2, e]; omega
      · intro hh
        rw [head_app h3] at hh
        have := h4 hh
        omega

theorem dec_back : ∀ (k : Nat) (l : List UInt8), l.length = k → l ≠ [] → isDig l → (l.head? = some 48 → l.length = 1) → l = Lib.decDigits (dval 0 l) := by
  intro k
  induction k with
  | zero => intro l hl hn; exact absurd (List.length_eq_zero_iff.1 hl) hn
  | succ k ih =>
    intro l hl hn hd hh
    obtain ⟨r, c, rfl⟩ : ∃ r c, l = r ++ [c] := ⟨l.dropLast, l.getLast hn, (List.dropLast_concat_getLast hn).symm⟩
    have hc := hd c (by simp)
    have hce : UInt8.ofNat (48 + (c.toNat - 48)) = c := by
      rw [show 48 + (c.toNat - 48) = c.toNat by omega]; exact UInt8.ofNat_toNat
    rw [dval_app]
    by_cases hr : r = []
    · subst hr
      simp only [dval_nil, Nat.zero_mul, Nat.zero_add, List.nil_append]
      rw [Lib.decDigits_one (by omega), hce]
    · have hrl : 1 ≤ r.length := by cases r with | nil => exact absurd rfl hr | cons => simp
      have hh' : r.head? ≠ some 48 := fun e => by
        have := hh (by rw [head_app hr]; exact e)
        exact hr (by simpa using this)
      have er := ih r (by simp at hl; omega) hr (fun x hx => hd x (by simp [hx])) (fun e => absurd e hh')
      have hpos : 1 ≤ dval 0 r := by
        cases r with
        | nil => exact absurd rfl hr
        | cons x t =>
          have hx := hd x (by simp)
          have hx8 : x.toNat ≠ 48 := fun e => hh' (by
            simp only [List.head?_cons, Option.some.injEq]
            exact UInt8.toNat_inj.1 (e.trans (by rfl)))
          have := dval_ge t (0 * 10 + (x.toNat - 48))
          rw [dval_cons]
          omega
      conv => rhs; rw [Lib.decDigits]
      rw [dif_neg (by omega), show (dval 0 r * 10 + (c.toNat - 48)) / 10 = dval 0 r by omega, show (dval 0 r * 10 + (c.toNat - 48)) % 10 = c.toNat - 48 by omega, hce, ← er]

/-- The number that a word is, of at most so many bits, without noughts ahead. -/
def numOk (B : Nat) (l : List UInt8) : Option Nat :=
  if l.head? = some 48 ∧ 1 < l.length then none
  else match Lib.parseUintB B l with
    | .ok u => some u
    | _ => none

theorem pow_le (B : Nat) (hB : B ≤ 64) : 2 ^ B - 1 < 18446744073709551616 := by
  have : 2 ^ B ≤ 2 ^ 64 := Nat.pow_le_pow_right (by omega) hB
  have : (2 : Nat) ^ 64 = 18446744073709551616 := by decide
  omega

theorem parse_iff (B : Nat) (hB : B ≤ 64) (l : List UInt8) (n : Nat) : Lib.parseUintB B l = .ok n ↔ l ≠ [] ∧ isDig l ∧ dval 0 l = n ∧ n < 2 ^ B := by
  unfold Lib.parseUintB
  have hp : 0 < 2 ^ B := Nat.pos_of_ne_zero (by simp)
  by_cases h : l = []
  · rw [if_pos h]; simp [h]
  · rw [if_neg h, parseM_iff _ (pow_le B hB) l 0 n (by omega)]
    constructor
    · rintro ⟨h1, h2, h3⟩; exact ⟨h, h1, h2, by omega⟩
    · rintro ⟨_, h1, h2, h3⟩; exact ⟨h1, h2, by omega⟩

theorem num_iff (B : Nat) (hB : B ≤ 64) (l : List UInt8) (n : Nat) : numOk B l = some n ↔ l = Lib.decDigits n ∧ n < 2 ^ B := by
  unfold numOk
  by_cases hz : l.head? = some 48 ∧ 1 < l.length
  · rw [if_pos hz]
    constructor
    · intro h; cases h
    · rintro ⟨rfl, _⟩
      obtain ⟨_, _, _, h4⟩ := dec_dig n n (Nat.le_refl _)
      have := h4 hz.1
      subst this
      rw [Lib.decDigits_one (by omega)] at hz
      simp at hz
  · rw [if_neg hz]
    constructor
    · intro h
      split at h
      · rename_i u hu
        cases h
        obtain ⟨h1, h2, h3, h4⟩ := (parse_iff B hB l n).1 hu
        refine ⟨?_, h4⟩
        rw [← h3]
        refine dec_back _ l rfl h1 h2 (fun e => ?_)
        have : ¬ 1 < l.length := fun h => hz ⟨e, h⟩
        have : l.length ≠ 0 := fun e => h1 (List.length_eq_zero_iff.1 e)
        omega
      · cases h
    · rintro ⟨rfl, hn⟩
      obtain ⟨h1, h2, h3, h4⟩ := dec_dig n n (Nat.le_refl _)
      rw [(parse_iff B hB _ n).2 ⟨h3, h1, h2, hn⟩]

theorem num_lt {B : Nat} {l : List UInt8} {n : Nat} (hB : B ≤ 64) (h : numOk B l = some n) : n < 2 ^ B := ((num_iff B hB l n).1 h).2

theorem num_dec {B n : Nat} (hB : B ≤ 64) (h : n < 2 ^ B) : numOk B (Lib.decDigits n) = some n := (num_iff B hB _ n).2 ⟨rfl, h⟩

/-- The document's number: digit by digit, behind a number. -/
def numD (M acc : Nat) : List UInt8 → Option Nat
  | [] => some acc
  | c :: r => if c.toNat < 48 ∨ 57 < c.toNat then none else if (M - (c.toNat - 48)) / 10 < acc then none else numD M (acc * 10 + (c.toNat - 48)) r

theorem numD_iff (M : Nat) (h9 : 9 ≤ M) : ∀ (l : List UInt8) (acc n : Nat), acc ≤ M → (numD M acc l = some n ↔ isDig l ∧ dval acc l = n ∧ n ≤ M)
  | [], acc, n, ha => by
    simp only [numD, dval_nil, isDig, Option.some.injEq]
    constructor
    · rintro rfl; exact ⟨by simp, rfl, ha⟩
    · exact fun h => h.2.1
  | c :: r, acc, n, ha => by
    rw [dval_cons]; simp only [numD]
    by_cases hd : c.toNat < 48 ∨ 57 < c.toNat
    · rw [if_pos hd]
      constructor
      · intro h; cases h
      · rintro ⟨h, _⟩; have := h c (List.mem_cons_self ..); omega
    · rw [if_neg hd]
      have hg := dval_ge r (acc * 10 + (c.toNat - 48))
      have hdig : isDig (c :: r) ↔ isDig r := by
        constructor
        · exact fun h x hx => h x (List.mem_cons_of_mem _ hx)
        · intro h x hx
          rcases List.mem_cons.1 hx with rfl | hx
          · omega
          · exact h x hx
      by_cases h2 : (M - (c.toNat - 48)) / 10 < acc
      · rw [if_pos h2]
        constructor
        · intro h; cases h
        · rintro ⟨_, h3, h4⟩; omega
      · rw [if_neg h2, numD_iff M h9 r _ n (by omega), hdig]

theorem numD_num (B : Nat) (h4 : 4 ≤ B) (hB : B ≤ 64) (l : List UInt8) (hn : l ≠ []) (hz : ¬ (l.head? = some 48 ∧ 1 < l.length)) : numD (2 ^ B - 1) 0 l = numOk B l := by
  have h16 : 2 ^ 4 ≤ 2 ^ B := Nat.pow_le_pow_right (by omega) h4
  have e : ∀ n, numD (2 ^ B - 1) 0 l = some n ↔ numOk B l = some n := fun n => by
    rw [numD_iff _ (by omega) l 0 n (by omega)]
    unfold numOk
    rw [if_neg hz]
    constructor
    · rintro ⟨h1, h2, h3⟩
      rw [(parse_iff B hB l n).2 ⟨hn, h1, h2, by omega⟩]
    · intro h
      split at h
      · rename_i u hu
        cases h
        obtain ⟨h1, h2, h3, h4⟩ := (parse_iff B hB l n).1 hu
        exact ⟨h2, h3, by omega⟩
      · cases h
  cases h : numOk B l with
  | some n => exact (e n).2 h
  | none =>
    cases h' : numD (2 ^ B - 1) 0 l with
    | none => rfl
    | some n => rw [(e n).1 h'] at h; cases h

/-! ### Words -/

/-- A line, parted by single blanks. -/
def words : List UInt8 → List (List UInt8)
  | [] => [[]]
  | c :: r => if c = 32 then [] :: words r else match words r with
    | [] => [[c]]
    | w :: t => (c :: w) :: t

theorem words_ne : ∀ l : List UInt8, words l ≠ []
  | [] => by simp [words]
  | c :: r => by
    unfold words
    split
    · simp
    · split <;> simp

/-- A word behind the last one, or a byte more of it. -/
def wstep (ws : List (List UInt8)) (c : UInt8) : List (List UInt8) := if c = 32 then ws ++ [[]] else ws.dropLast ++ [ws.getLastD [] ++ [c]]

theorem words_app : ∀ (l : List UInt8) (c : UInt8), words (l ++ [c]) = wstep (words l) c
  | [], c => by
    unfold wstep
    simp only [List.nil_append, words]
    split <;> simp
  | x :: r, c => by
    simp only [List.cons_append, words]
    rw [words_app r c]
    have hne := words_ne r
    by_cases hx : x = 32
    · rw [if_pos hx, if_pos hx]
      unfold wstep
      split
      · simp
      · cases h : words r with
        | nil => exact absurd h hne
        | cons w t => simp [List.getLastD]
    · rw [if_neg hx, if_neg hx]
      cases h : words r with
      | nil => exact absurd h hne
      | cons w t =>
        unfold wstep
        by_cases hc : c = 32
        · simp [hc]
        · rw [if_neg hc, if_neg hc]
          cases t with
          | nil => simp [List.getLastD]
          | cons y s => simp [List.getLastD]

theorem words_plain : ∀ (l : List UInt8), (32 : UInt8) ∉ l → words l = [l]
  | [], _ => rfl
  | c :: r, h => by
    unfold words
    rw [if_neg (fun e => h (by simp [e])), words_plain r (fun e => h (by simp [e]))]

theorem words_blank : ∀ (l r : List UInt8), (32 : UInt8) ∉ l → words (l ++ 32 :: r) = l :: words r
  | [], r, _ => by simp [words]
  | c :: t, r, h => by
    simp only [List.cons_append, words]
    rw [if_neg (fun e => h (by simp [e])), words_blank t r (fun e => h (by simp [e]))]

/-- Words with a blank between each two. -/
def unwords : List (List UInt8) → List UInt8
  | [] => []
  | [w] => w
  | w :: x :: t => w ++ 32 :: unwords (x :: t)

theorem words_unwords : ∀ (ws : List (List UInt8)), ws ≠ [] → (∀ w ∈ ws, (32 : UInt8) ∉ w) → words (unwords ws) = ws
  | [], h, _ => absurd rfl h
  | [w], _, h => words_plain w (h w (by simp))
  | w :: x :: t, _, h => by
    rw [unwords, words_blank _ _ (h w (by simp)), words_unwords (x :: t) (by simp) (fun y hy => h y (by simp [List.mem_cons.1 hy]))]

theorem unwords_cons (c : UInt8) (w : List UInt8) (t : List (List UInt8)) : unwords ((c :: w) :: t) = c :: unwords (w :: t) := by
  cases t <;> simp [unwords]

theorem unwords_words : ∀ l : List UInt8, unwords (words l) = l
  | [] => rfl
  | c :: r => by
    have ih := unwords_words r
    have hne := words_ne r
    unfold words
    split
    · rename_i hc
      subst hc
      cases h : words r with
      | nil => exact absurd h hne
      | cons w t => rw [h] at ih; simp [unwords, ih]
    · cases h : words r with
      | nil => exact absurd h hne
      | cons w t =>
        rw [h] at ih
        simp only
        rw [unwords_cons, ih]

theorem index_blank (l : List UInt8) : (Lib.index l [32] = -1 ∧ (32 : UInt8) ∉ l) ∨ ∃ a r : List UInt8, l = a ++ 32 :: r ∧ (32 : UInt8) ∉ a ∧ Lib.index l [32] = (a.length : Int) := by
  induction l with
  | nil => left; exact ⟨rfl, by simp⟩
  | cons c t ih =>
    by_cases hc : c = 32
    · subst hc
      right
      exact ⟨[], t, rfl, by simp, by simp [Lib.index, List.isPrefixOf]⟩
    · have hp : List.isPrefixOf [32] (c :: t) = false := by
        simp [List.isPrefixOf]
        exact fun e => hc e.symm
      rcases ih with ⟨h1, h2⟩ | ⟨a, r, rfl, h2, h3⟩
      · left
        refine ⟨?_, by simp; exact ⟨fun e => hc e.symm, h2⟩⟩
        simp [Lib.index, hp, h1]
      · right
        refine ⟨c :: a, r, rfl, by simp; exact ⟨fun e => hc e.symm, h2⟩, ?_⟩
        simp only [Lib.index, hp, h3]
        have : ¬ ((a.length : Int) == -1) = true := fun e => by have := beq_iff_eq.1 e; omega
        simp only [Bool.false_eq_true, if_false, this, List.length_cons]
        omega

/-- Cut at the first k blanks: all words, if there are no more; else k + 1 parts. -/
theorem splitK_words : ∀ (k : Nat) (l : List UInt8), ((words l).length ≤ k + 1 ∧ Lib.splitK [32] 0 k l = words l) ∨ (k + 1 < (words l).length ∧ (Lib.splitK [32] 0 k l).length = k + 1)
  | 0, l => by
    rcases index_blank l with ⟨_, h⟩ | ⟨a, r, rfl, h, _⟩
    · left; rw [words_plain l h]; exact ⟨by simp, rfl⟩
    · right
      rw [words_blank a r h]
      have := words_ne r
      cases hw : words r with
      | nil => exact absurd hw this
      | cons => simp [Lib.splitK]
  | k + 1, l => by
    rcases index_blank l with ⟨h1, h⟩ | ⟨a, r, rfl, h, h1⟩
    · left; rw [words_plain l h]; refine ⟨by simp, ?_⟩
      simp [Lib.splitK, h1]
    · have hne : ¬ ((a.length : Int) == -1) = true := fun e => by have := beq_iff_eq.1 e; omega
      have e : Lib.splitK [32] 0 (k + 1) (a ++ 32 :: r) = a :: Lib.splitK [32] 0 k r := by
        simp only [Lib.splitK, h1, hne, Int.toNat_natCast, Nat.add_zero, List.length_singleton]
        simp
      rw [e, words_blank a r h]
      rcases splitK_words k r with ⟨h2, h3⟩ | ⟨h2, h3⟩
      · left; exact ⟨by simp; omega, by rw [h3]⟩
      · right; exact ⟨by simp; omega, by simp [h3]⟩

end Go.Proofs.YtlnlfeninjjkmaaDoor
