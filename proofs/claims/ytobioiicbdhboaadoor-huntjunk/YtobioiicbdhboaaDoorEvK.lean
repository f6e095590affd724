/-
  The mathematics of event, over plain numbers: the kinds' names and which numbers may stand where, which events can be, which event the words of a line are, and that an event's line and the event lead to each other. No condition.
-/
import Derived.Test.YtobioiicbdhboaaDoorEv0
namespace Go.Proofs.YtobioiicbdhboaaDoor
open Go
set_option linter.unusedVariables false

/-- The kinds: name, and which numbers may stand for A, B, V. -/
def rowsT : List (List UInt8 × Int × Int × Int) := [([], 0, 0, 0),
  ([105, 114, 113], 3, 2, 0),
  ([100, 101, 118], 3, 6, 1),
  ([101, 110, 116, 101, 114], 3, 0, 0),
  ([101, 120, 105, 116], 3, 0, 0),
  ([115, 119, 105, 116, 99, 104], 5, 5, 0),
  ([114, 101, 108, 101, 97, 115, 101], 4, 0, 1),
  ([108, 97, 116, 101], 4, 0, 11),
  ([101, 110, 100], 4, 0, 1),
  ([98, 108, 111, 99, 107], 4, 10, 0),
  ([119, 97, 107, 101], 4, 2, 0),
  ([108, 101, 118, 101, 108], 4, 9, 0),
  ([108, 111, 99, 107], 4, 8, 0),
  ([117, 110, 108, 111, 99, 107], 4, 8, 0),
  ([112, 111, 115, 116], 7, 8, 12),
  ([116, 97, 107, 101], 4, 8, 12),
  ([115, 101, 110, 100], 6, 8, 1),
  ([114, 101, 99, 118], 6, 8, 1),
  ([116, 105, 109, 101, 114], 8, 0, 0),
  ([97, 114, 109], 6, 8, 1),
  ([111, 117, 116], 3, 6, 1),
  ([102, 97, 117, 108, 116], 6, 13, 0),
  ([104, 97, 108, 116], 4, 0, 0),
  ([114, 101, 102, 117, 115, 101], 7, 13, 14),
  ([99, 108, 111, 115, 101], 0, 0, 0)]

def rowT (k : Nat) : List UInt8 × Int × Int × Int := rowsT.getD k ([], 0, 0, 0)
def nameL (k : Nat) : List UInt8 := (rowT k).1
def spanA (k : Nat) : Int := (rowT k).2.1
def spanB (k : Nat) : Int := (rowT k).2.2.1
def spanV (k : Nat) : Int := (rowT k).2.2.2

def knownB (k : Int) : Bool := decide (1 ≤ k) && decide (k ≤ 24)
def hasA (k : Int) : Bool := knownB k && !decide (spanA k.toNat = 0)
def hasB (k : Int) : Bool := knownB k && !decide (spanB k.toNat = 0)
def hasV (k : Int) : Bool := knownB k && !decide (spanV k.toNat = 0)

/-- The greatest number of a span from 0 on. -/
def mostN (s : Int) : Nat :=
  if s = 2 then 1 else if s = 3 then 15 else if s = 4 then 63 else if s = 6 then 79 else if s = 7 then 80 else if s = 8 then 31 else if s = 9 then 31 else if s = 12 then 255 else if s = 13 then 16 else if s = 14 then 38 else 0
def withinB (s : Int) (n : Nat) : Bool :=
  if s = 1 then true else if s = 5 then decide (n < 64) || decide (n = 255) else if s = 10 then decide (n = 0) || (decide (32 ≤ n) && decide (n < 160)) else if s = 11 then decide (1 ≤ n) && decide (n ≤ 255) else decide (n ≤ mostN s)

structure Ev where
  kind : Int
  cyc : Nat
  cnt : Nat
  a : Nat
  b : Nat
  v : Nat

def ev0 : Ev := ⟨0, 0, 0, 0, 0, 0⟩

def allIn (e : Ev) : Bool := withinB (spanA e.kind.toNat) e.a && (withinB (spanB e.kind.toNat) e.b && withinB (spanV e.kind.toNat) e.v)
/-- 0: it can be; else the error. -/
def checkN (e : Ev) : Int :=
  if knownB e.kind = false then 1 else if allIn e = false then 5 else if e.kind = 5 ∧ e.a = e.b then 5 else 0

theorem checkN_cases (e : Ev) : checkN e = 0 ∨ checkN e = 1 ∨ checkN e = 5 := by
  unfold checkN; split
  · simp
  · split
    · simp
    · split <;> simp

/-- The kind of that name; 0: none. -/
def kindOf (l : List UInt8) : Nat := match (List.range 24).find? (fun i => nameL (i + 1) == l) with
  | some i => i + 1
  | none => 0

theorem names_apart : ∀ i : Fin 24, ∀ j : Fin 24, nameL (i.val + 1) = nameL (j.val + 1) → i = j := by decide +kernel
theorem names_blank : ∀ i : Fin 25, (32 : UInt8) ∉ nameL i.val := by decide +kernel
theorem names_some : ∀ i : Fin 24, nameL (i.val + 1) ≠ [] := by decide +kernel
theorem names_short : ∀ i : Fin 25, (nameL i.val).length ≤ 7 := by decide +kernel

theorem kindOf_le (l : List UInt8) : kindOf l ≤ 24 := by
  unfold kindOf
  split
  · rename_i i h
    have := List.mem_of_find?_eq_some h
    simp at this; omega
  · omega
theorem kindOf_name {l : List UInt8} (h : kindOf l ≠ 0) : nameL (kindOf l) = l := by
  unfold kindOf at *
  split at *
  · rename_i i hi
    have := List.find?_some hi
    simpa using this
  · exact absurd rfl h
theorem kindOf_is {k : Nat} {l : List UInt8} (h1 : 1 ≤ k) (h2 : k ≤ 24) (h : nameL k = l) : kindOf l = k := by
  unfold kindOf
  split
  · rename_i i hi
    have hm := List.mem_of_find?_eq_some hi
    have hn := List.find?_some hi
    simp only [beq_iff_eq] at hn
    simp only [List.mem_range] at hm
    have := names_apart ⟨i, hm⟩ ⟨k - 1, by omega⟩ (by simp only [show k - 1 + 1 = k by omega]; rw [hn, h])
    simp only [Fin.mk.injEq] at this
    omega
  · rename_i hn
    have := List.find?_eq_none.1 hn (k - 1) (by simp; omega)
    rw [show k - 1 + 1 = k by omega, h] at this
    simp at this
theorem kindOf_none {l : List UInt8} (h : ∀ k, 1 ≤ k → k ≤ 24 → nameL k ≠ l) : kindOf l = 0 := by
  by_cases h0 : kindOf l = 0
  · exact h0
  · exact absurd (kindOf_name h0) (h _ (by omega) (kindOf_le l))

/-! ### The words of an event -/

def takeF (has : Bool) (r : List (List UInt8)) : Option (Nat × List (List UInt8)) :=
  if has = true then (match r with
    | [] => none
    | w :: t => (numOk 32 w).map fun n => (n, t)) else some (0, r)

def formL (ws : List (List UInt8)) : Option Ev := match ws with
  | x :: y :: z :: r => (numOk 64 x).bind fun cnt => (numOk 64 y).bind fun cyc => if kindOf z = 0 then none else
      (takeF (hasA (kindOf z)) r).bind fun p => (takeF (hasB (kindOf z)) p.2).bind fun q => (takeF (hasV (kindOf z)) q.2).bind fun s => if s.2 = [] then some ⟨(kindOf z : Int), cyc, cnt, p.1, q.1, s.1⟩ else none
  | _ => none

def opt (h : Bool) (n : Nat) : List (List UInt8) := if h = true then [Lib.decDigits n] else []
def wordsOf (e : Ev) : List (List UInt8) := Lib.decDigits e.cnt :: Lib.decDigits e.cyc :: nameL e.kind.toNat :: (opt (hasA e.kind) e.a ++ (opt (hasB e.kind) e.b ++ opt (hasV e.kind) e.v))

structure Fine (e : Ev) : Prop where
  k1 : 1 ≤ e.kind
  k2 : e.kind ≤ 24
  cnt : e.cnt < 18446744073709551616
  cyc : e.cyc < 18446744073709551616
  a : e.a < 4294967296
  b : e.b < 4294967296
  v : e.v < 4294967296
  za : hasA e.kind = false → e.a = 0
  zb : hasB e.kind = false → e.b = 0
  zv : hasV e.kind = false → e.v = 0

theorem takeF_iff (has : Bool) (r : List (List UInt8)) (n : Nat) (t : List (List UInt8)) : takeF has r = some (n, t) ↔ r = opt has n ++ t ∧ n < 4294967296 ∧ (has = false → n = 0) := by
  have e32 : (2 : Nat) ^ 32 = 4294967296 := by decide
  unfold takeF opt
  cases has with
  | false =>
    simp only [Bool.false_eq_true, if_false, Option.some.injEq, Prod.mk.injEq, List.nil_append]
    constructor
    · rintro ⟨rfl, rfl⟩; simp
    · rintro ⟨rfl, _, h⟩; exact ⟨(h (by trivial)).symm, rfl⟩
  | true =>
    simp only [if_true, Bool.true_eq_false, false_implies, and_true]
    cases r with
    | nil => simp
    | cons w r =>
      simp only [Option.map_eq_some_iff, Prod.mk.injEq, List.cons_append, List.nil_append, List.cons.injEq]
      constructor
      · rintro ⟨m, hm, rfl, rfl⟩
        obtain ⟨h1, h2⟩ := (num_iff 32 (by omega) w m).1 hm
        exact ⟨⟨h1, rfl⟩, by omega⟩
      · rintro ⟨⟨h1, rfl⟩, h2⟩
        exact ⟨n, (num_iff 32 (by omega) w n).2 ⟨h1, by omega⟩, rfl, rfl⟩

theorem form_iff (ws : List (List UInt8)) (e : Ev) : formL ws = some e ↔ ws = wordsOf e ∧ Fine e := by
  have e64 : (2 : Nat) ^ 64 = 18446744073709551616 := by decide
  constructor
  · intro h
    unfold formL at h
    split at h
    · rename_i x y z r
      simp only [Option.bind_eq_some_iff] at h
      obtain ⟨cnt, hc, cyc, hy, h⟩ := h
      split at h
      · cases h
      · rename_i hz
        simp only [Option.bind_eq_some_iff] at h
        obtain ⟨⟨a, r1⟩, h1, ⟨b, r2⟩, h2, ⟨v, r3⟩, h3, h⟩ := h
        split at h
        · rename_i h4
          cases h
          simp only at h1 h2 h3 h4
          subst h4
          obtain ⟨rfl, a2, a3⟩ := (takeF_iff _ _ _ _).1 h1
          obtain ⟨rfl, b2, b3⟩ := (takeF_iff _ _ _ _).1 h2
          obtain ⟨rfl, v2, v3⟩ := (takeF_iff _ _ _ _).1 h3
          obtain ⟨rfl, c2⟩ := (num_iff 64 (by omega) _ _).1 hc
          obtain ⟨rfl, y2⟩ := (num_iff 64 (by omega) _ _).1 hy
          have hle := kindOf_le z
          refine ⟨?_, ⟨by simp only; omega, by simp only; omega, by simp only; omega, by simp only; omega, a2, b2, v2, a3, b3, v3⟩⟩
          simp only [wordsOf, Int.toNat_natCast, kindOf_name hz, List.append_nil]
        · cases h
    · cases h
  · rintro ⟨rfl, f⟩
    have f1 := f.k1
    have f2 := f.k2
    have hk : kindOf (nameL e.kind.toNat) = e.kind.toNat := kindOf_is (by omega) (by omega) rfl
    have hki : ((e.kind.toNat : Nat) : Int) = e.kind := by omega
    have hn0 : e.kind.toNat ≠ 0 := by omega
    unfold formL wordsOf
    simp only [num_dec (B := 64) (by omega) (show e.cnt < 2 ^ 64 by have := f.cnt; omega), num_dec (B := 64) (by omega) (show e.cyc < 2 ^ 64 by have := f.cyc; omega), Option.bind_some, hk, hki, if_neg hn0]
    rw [(takeF_iff _ _ e.a _).2 ⟨rfl, f.a, f.za⟩]
    simp only [Option.bind_some]
    rw [(takeF_iff _ _ e.b _).2 ⟨rfl, f.b, f.zb⟩]
    simp only [Option.bind_some]
    rw [(takeF_iff _ _ e.v []).2 ⟨by simp, f.v, f.zv⟩]
    simp

theorem form_short {ws : List (List UInt8)} {e : Ev} (h : formL ws = some e) : ws.length ≤ 6 := by
  obtain ⟨rfl, _⟩ := (form_iff ws e).1 h
  have ho : ∀ (x : Bool) n, (opt x n).length ≤ 1 := by intro x n; unfold opt; cases x <;> simp
  have := ho (hasA e.kind) e.a
  have := ho (hasB e.kind) e.b
  have := ho (hasV e.kind) e.v
  simp only [wordsOf, List.length_cons, List.length_append]
  omega

theorem words_len : ∀ l : List UInt8, (words l).length ≤ l.length + 1
  | [] => by simp [words]
  | c :: r => by
    have ih := words_len r
    unfold words
    split
    · simp; omega
    · split
      · simp
      · rename_i w t h; rw [h] at ih; simp at ih ⊢; omega

/-- The event that a line tells, and whether it tells one. -/
theorem form_split (l : List UInt8) : formL (Lib.splitK [32] 0 (min 7 (l.length + 1) - 1) l) = formL (words l) := by
  have hw := words_len l
  rcases splitK_words (min 7 (l.length + 1) - 1) l with ⟨_, h⟩ | ⟨h1, h2⟩
  · rw [h]
  · have a : formL (words l) = none := by
      cases h : formL (words l) with
      | none => rfl
      | some e => have := form_short h; omega
    have b : formL (Lib.splitK [32] 0 (min 7 (l.length + 1) - 1) l) = none := by
      cases h : formL (Lib.splitK [32] 0 (min 7 (l.length + 1) - 1) l) with
      | none => rfl
      | some e => have := form_short h; omega
    rw [a, b]

def parseW (ws : List (List UInt8)) : Ev × Int := match formL ws with
  | none => (ev0, 3)
  | some e => if checkN e = 0 then (e, 0) else (ev0, checkN e)
/-- The event that a line is, and the error. -/
def parseL (l : List UInt8) : Ev × Int := parseW (words l)

/-- The line of an event. -/
def textL (e : Ev) : List UInt8 := unwords (wordsOf e)

theorem dec_blank (n : Nat) : (32 : UInt8) ∉ Lib.decDigits n := fun h => by
  have := (dec_dig n n (Nat.le_refl _)).1 _ h
  have e : (32 : UInt8).toNat = 32 := rfl
  omega

theorem words_text (e : Ev) (h : e.kind ≤ 24) : words (textL e) = wordsOf e := by
  refine words_unwords _ (by simp [wordsOf]) (fun w hw => ?_)
  have ho : ∀ (x : Bool) n, w ∈ opt x n → (32 : UInt8) ∉ w := by
    intro x n hx
    unfold opt at hx
    cases x
    · simp at hx
    · simp at hx; subst hx; exact dec_blank n
  simp only [wordsOf, List.mem_cons, List.mem_append] at hw
  rcases hw with rfl | rfl | rfl | h | h | h
  · exact dec_blank _
  · exact dec_blank _
  · exact names_blank ⟨e.kind.toNat, by omega⟩
  · exact ho _ _ h
  · exact ho _ _ h
  · exact ho _ _ h

theorem within0 {n : Nat} (h : withinB 0 n = true) : n = 0 := by
  simp [withinB, mostN] at h; exact h

theorem check_fine {e : Ev} (hc : e.cnt < 18446744073709551616) (hy : e.cyc < 18446744073709551616) (ha : e.a < 4294967296) (hb : e.b < 4294967296) (hv : e.v < 4294967296) (h : checkN e = 0) : Fine e := by
  unfold checkN at h
  split at h
  · cases h
  · rename_i hk
    split at h
    · cases h
    · rename_i hi
      have hk : knownB e.kind = true := by simpa using hk
      have hi : allIn e = true := by simpa using hi
      have hk' := hk
      simp only [knownB, Bool.and_eq_true, decide_eq_true_eq] at hk'
      simp only [allIn, Bool.and_eq_true] at hi
      refine ⟨hk'.1, hk'.2, hc, hy, ha, hb, hv, fun x => ?_, fun x => ?_, fun x => ?_⟩
      · simp [hasA, hk] at x; rw [x] at hi; exact within0 hi.1
      · simp [hasB, hk] at x; rw [x] at hi; exact within0 hi.2.1
      · simp [hasV, hk] at x; rw [x] at hi; exact within0 hi.2.2

theorem parse_text {e : Ev} (f : Fine e) (h : checkN e = 0) : parseL (textL e) = (e, 0) := by
  unfold parseL parseW
  rw [words_text e f.k2, (form_iff _ e).2 ⟨rfl, f⟩]
  simp [h]

theorem text_parse {l : List UInt8} {e : Ev} (h : parseL l = (e, 0)) : textL e = l ∧ Fine e ∧ checkN e = 0 := by
  unfold parseL parseW at h
  split at h
  · cases h
  · rename_i x hx
    split at h
    · rename_i hc
      cases h
      obtain ⟨h1, h2⟩ := (form_iff _ e).1 hx
      exact ⟨by rw [textL, ← h1, unwords_words], h2, hc⟩
    · rename_i hc
      simp only [Prod.mk.injEq] at h
      exact absurd h.2 hc

theorem parse_err {l : List UInt8} {e : Ev} {k : Int} (h : parseL l = (e, k)) (hk : k ≠ 0) : e = ev0 := by
  unfold parseL parseW at h
  split at h
  · cases h; rfl
  · split at h
    · cases h; exact absurd rfl hk
    · cases h; rfl

/-- What the parts of a line are, put together. -/
def optT (h : Bool) (n : Nat) : List UInt8 := if h = true then 32 :: Lib.decDigits n else []
theorem textL_eq (e : Ev) : textL e = Lib.decDigits e.cnt ++ (32 :: (Lib.decDigits e.cyc ++ (32 :: (nameL e.kind.toNat ++ (optT (hasA e.kind) e.a ++ (optT (hasB e.kind) e.b ++ optT (hasV e.kind) e.v)))))) := by
  unfold textL wordsOf opt optT
  cases hasA e.kind <;> cases hasB e.kind <;> cases hasV e.kind <;> simp [unwords]

theorem dec_len (n : Nat) (h : n < 18446744073709551616) : (Lib.decDigits n).length ≤ 20 := by rw [Lib.decDigits_length]; exact Lib.nDigits_le20 n h
theorem text_len {e : Ev} (f : Fine e) : (textL e).length ≤ 120 := by
  have f2 := f.k2
  have ho : ∀ (x : Bool) n, n < 4294967296 → (optT x n).length ≤ 21 := by
    intro x n hn
    unfold optT
    cases x
    · simp
    · have := dec_len n (by omega); simp; omega
  have := dec_len _ f.cnt
  have := dec_len _ f.cyc
  have := names_short ⟨e.kind.toNat, by omega⟩
  have := ho (hasA e.kind) _ f.a
  have := ho (hasB e.kind) _ f.b
  have := ho (hasV e.kind) _ f.v
  simp only at *
  rw [textL_eq]
  simp only [List.length_append, List.length_cons]
  omega

end Go.Proofs.YtobioiicbdhboaaDoor
