/-
  Layer 2 (leb): the plain mathematics of its numbers' bytes. Nothing of the translation is named here.
-/
import Derived.Lib.Hide
namespace Go.Proofs.YtobioiicbdhboaaDoor
set_option linter.unusedVariables false

/-- A number's bytes. -/
def lebL (n : Nat) : List UInt8 := if h : n < 128 then [UInt8.ofNat n] else UInt8.ofNat (n % 128 + 128) :: lebL (n / 128)
termination_by n

theorem lebL_lt {n : Nat} (h : n < 128) : lebL n = [UInt8.ofNat n] := by rw [lebL, dif_pos h]
theorem lebL_ge {n : Nat} (h : 128 ≤ n) : lebL n = UInt8.ofNat (n % 128 + 128) :: lebL (n / 128) := by rw [lebL, dif_neg (by omega)]

/-- What bytes say, seven bits each. -/
def val : List UInt8 → Nat
  | [] => 0
  | b :: l => b.toNat % 128 + 128 * val l

theorem val_append : ∀ (l m : List UInt8), val (l ++ m) = val l + 128 ^ l.length * val m
  | [], m => by simp [val]
  | b :: l, m => by
    have h := val_append l m
    simp only [List.cons_append, val, h, List.length_cons, Nat.pow_succ, Nat.mul_add]
    rw [Nat.add_assoc, ← Nat.mul_assoc, Nat.mul_comm 128 (128 ^ _)]
theorem val_lt : ∀ l : List UInt8, val l < 128 ^ l.length
  | [] => by simp [val]
  | b :: l => by
    have h := val_lt l
    simp only [val, List.length_cons, Nat.pow_succ]
    have := Nat.mod_lt b.toNat (show 128 > 0 by omega)
    omega
theorem val_take_succ (l : List UInt8) (k : Nat) (h : k < l.length) : val (l.take (k + 1)) = val (l.take k) + 128 ^ k * (l[k].toNat % 128) := by
  rw [List.take_succ_eq_append_getElem h, val_append]
  simp [val, List.length_take, Nat.min_eq_left (Nat.le_of_lt h)]
theorem val_take_lt (l : List UInt8) (k : Nat) : val (l.take k) < 128 ^ k := by
  have h := val_lt (l.take k)
  have h2 : (l.take k).length ≤ k := List.length_take_le _ _
  exact Nat.lt_of_lt_of_le h (Nat.pow_le_pow_right (by omega) h2)

/-- A byte at place k is refused. -/
def lebBad (b k : Nat) : Bool := (decide (b = 0) && decide (0 < k)) || (decide (1 < b) && decide (k = 9))

/-- What comes at place k: the number, the error, how many bytes. -/
def lebScan : Nat → Nat → List UInt8 → Nat × Nat × Nat
  | _, _, [] => (0, 2, 0)
  | k, a, b :: l => if lebBad b.toNat k then (0, 3, 0) else if b.toNat < 128 then (a + 128 ^ k * (b.toNat % 128), 0, k + 1) else lebScan (k + 1) (a + 128 ^ k * (b.toNat % 128)) l

/-- As seen behind k of the bytes. -/
def lebAt (l : List UInt8) (k : Nat) : Nat × Nat × Nat := lebScan k (val (l.take k)) (l.drop k)
/-- What bytes go on with: the number, the error, how many bytes. -/
def lebGet (l : List UInt8) : Nat × Nat × Nat := lebAt l 0

theorem lebAt_end {l : List UInt8} {k : Nat} (h : l.length ≤ k) : lebAt l k = (0, 2, 0) := by
  unfold lebAt; rw [List.drop_eq_nil_of_le h, lebScan]
theorem lebAt_bad {l : List UInt8} {k : Nat} (h : k < l.length) (hb : lebBad l[k].toNat k = true) : lebAt l k = (0, 3, 0) := by
  unfold lebAt; rw [List.drop_eq_getElem_cons h, lebScan, if_pos hb]
theorem lebAt_ok {l : List UInt8} {k : Nat} (h : k < l.length) (hb : lebBad l[k].toNat k = false) (hl : l[k].toNat < 128) : lebAt l k = (val (l.take (k + 1)), 0, k + 1) := by
  unfold lebAt; rw [List.drop_eq_getElem_cons h, lebScan, if_neg (by simp [hb]), if_pos hl, val_take_succ l k h]
theorem lebAt_go {l : List UInt8} {k : Nat} (h : k < l.length) (hb : lebBad l[k].toNat k = false) (hl : ¬ l[k].toNat < 128) : lebAt l k = lebAt l (k + 1) := by
  conv => lhs; unfold lebAt
  rw [List.drop_eq_getElem_cons h, lebScan, if_neg (by simp [hb]), if_neg hl, ← val_take_succ l k h]; rfl

theorem lebBad_nine {b : Nat} (h : lebBad b 9 = false) : b = 1 := by
  simp [lebBad] at h; omega

/-- What is got is below 2^64. -/
theorem lebScan_lt : ∀ (l : List UInt8) (k a : Nat), k ≤ 9 → a < 128 ^ k → (lebScan k a l).1 < 18446744073709551616
  | [], k, a, _, _ => by simp [lebScan]
  | b :: l, k, a, hk, ha => by
    simp only [lebScan]
    have hm := Nat.mod_lt b.toNat (show 128 > 0 by omega)
    have hs : a + 128 ^ k * (b.toNat % 128) < 128 ^ (k + 1) := by
      have : 128 ^ k * (b.toNat % 128) ≤ 128 ^ k * 127 := Nat.mul_le_mul_left _ (by omega)
      rw [Nat.pow_succ]; omega
    split
    · simp
    · rename_i hb
      by_cases h9 : k = 9
      · subst h9
        have h1 := lebBad_nine (by simpa using hb)
        rw [h1, if_pos (by omega)]
        have : (128 : Nat) ^ 9 = 9223372036854775808 := by decide
        omega
      · have h18 : (128 : Nat) ^ (k + 1) ≤ 128 ^ 9 := Nat.pow_le_pow_right (by omega) (by omega)
        split
        · have : (128 : Nat) ^ 9 = 9223372036854775808 := by decide
          show _ < _
          omega
        · exact lebScan_lt l (k + 1) _ (by omega) hs
theorem lebGet_lt (l : List UInt8) : (lebGet l).1 < 18446744073709551616 := lebScan_lt l 0 _ (by omega) (by simp [val])

/-- A number's bytes are got, whatever stands behind them. -/
theorem lebScan_put (rest : List UInt8) : ∀ (n k a : Nat), k ≤ 9 → n * 128 ^ k < 18446744073709551616 → (0 < k → n ≠ 0) →
    lebScan k a (lebL n ++ rest) = (a + 128 ^ k * n, 0, k + (lebL n).length) := by
  intro n
  induction n using Nat.strongRecOn with
  | ind n ih =>
    intro k a hk hn h0
    have h9 : k = 9 → n ≤ 1 := by
      intro e; subst e
      have : (128 : Nat) ^ 9 = 9223372036854775808 := by decide
      omega
    by_cases h : n < 128
    · have e : (UInt8.ofNat n).toNat = n := by simp; omega
      have hb : lebBad n k = false := by simp [lebBad]; omega
      rw [lebL_lt h]
      simp only [List.cons_append, List.nil_append, lebScan, e, hb, if_pos h, List.length_cons, List.length_nil]
      rw [Nat.mod_eq_of_lt h]
      simp
    · have hlt : n % 128 + 128 < 256 := by omega
      have e : (UInt8.ofNat (n % 128 + 128)).toNat = n % 128 + 128 := by simp; omega
      have hk9 : k ≠ 9 := fun e => by have := h9 e; omega
      have hb : lebBad (n % 128 + 128) k = false := by simp [lebBad]; omega
      rw [lebL_ge (by omega)]
      simp only [List.cons_append, lebScan, e, hb, List.length_cons]
      rw [if_neg (by simp), if_neg (by omega)]
      have hmul : n / 128 * 128 ^ (k + 1) ≤ n * 128 ^ k := by
        rw [Nat.pow_succ, Nat.mul_comm (128 ^ k) 128, ← Nat.mul_assoc]
        exact Nat.mul_le_mul_right _ (by omega)
      rw [ih (n / 128) (by omega) (k + 1) _ (by omega) (by omega) (fun _ => by omega)]
      refine Prod.ext ?_ (Prod.ext rfl ?_)
      · show a + 128 ^ k * ((n % 128 + 128) % 128) + 128 ^ (k + 1) * (n / 128) = a + 128 ^ k * n
        rw [Nat.pow_succ, Nat.mul_assoc, Nat.add_assoc, ← Nat.mul_add]
        congr 2; omega
      · show k + 1 + _ = k + (_ + 1); omega
theorem lebGet_put (n : Nat) (rest : List UInt8) (h : n < 18446744073709551616) : lebGet (lebL n ++ rest) = (n, 0, (lebL n).length) := by
  unfold lebGet lebAt
  rw [List.drop_zero, List.take_zero, lebScan_put rest n 0 _ (by omega) (by simpa using h) (by omega)]
  simp [val]

theorem lebL_inj {a b : Nat} (ha : a < 18446744073709551616) (hb : b < 18446744073709551616) (r t : List UInt8) (h : lebL a ++ r = lebL b ++ t) : a = b := by
  have h1 := lebGet_put a r ha
  rw [h, lebGet_put b t hb] at h1
  exact (congrArg Prod.fst h1).symm

/-- How many bytes. -/
theorem lebL_length : ∀ (n m : Nat), 0 < m → n < 128 ^ m → (1 < m → 128 ^ (m - 1) ≤ n) → (lebL n).length = m := by
  intro n
  induction n using Nat.strongRecOn with
  | ind n ih =>
    intro m hm h1 h2
    by_cases h : n < 128
    · rw [lebL_lt h]
      by_cases e : m = 1
      · simp [e]
      · have h3 := h2 (by omega)
        have : (128 : Nat) ^ 1 ≤ 128 ^ (m - 1) := Nat.pow_le_pow_right (by omega) (by omega)
        omega
    · rw [lebL_ge (by omega), List.length_cons]
      have hm1 : 1 < m := by
        rcases Nat.lt_or_ge 1 m with h | h
        · exact h
        · obtain rfl : m = 1 := by omega
          simp at h1; omega
      obtain ⟨j, rfl⟩ : ∃ j, m = j + 1 := ⟨m - 1, by omega⟩
      rw [ih (n / 128) (by omega) j (by omega) (by rw [Nat.div_lt_iff_lt_mul (by omega)]; rwa [Nat.pow_succ] at h1) (fun hj => by
        have := h2 (by omega)
        obtain ⟨i, rfl⟩ : ∃ i, j = i + 1 := ⟨j - 1, by omega⟩
        simp only [Nat.add_sub_cancel] at this ⊢
        rw [Nat.le_div_iff_mul_le (by omega), ← Nat.pow_succ]
        exact this)]

theorem lebL_le (n m : Nat) (hm : 0 < m) (h : n < 128 ^ m) : (lebL n).length ≤ m := by
  induction m generalizing n with
  | zero => omega
  | succ m ih =>
    by_cases h1 : n < 128
    · rw [lebL_lt h1]; simp
    · rw [lebL_ge (by omega), List.length_cons]
      have hm0 : 0 < m := by
        rcases Nat.eq_zero_or_pos m with e | e
        · subst e; simp at h; omega
        · exact e
      have := ih (n / 128) hm0 (by rw [Nat.div_lt_iff_lt_mul (by omega)]; rwa [Nat.pow_succ] at h)
      omega
theorem lebL_pos (n : Nat) : 0 < (lebL n).length := by
  by_cases h1 : n < 128
  · rw [lebL_lt h1]; simp
  · rw [lebL_ge (by omega)]; simp
theorem lebL_len10 (n : Nat) (h : n < 18446744073709551616) : (lebL n).length ≤ 10 :=
  lebL_le n 10 (by omega) (Nat.lt_of_lt_of_le h (by decide))

/-- The last byte is below 128. -/
theorem lebL_last (n : Nat) : ∀ (k : Nat) (h : k < (lebL n).length), k + 1 = (lebL n).length → (lebL n)[k].toNat < 128 := by
  induction n using Nat.strongRecOn with
  | ind n ih =>
    intro k h hk
    by_cases h1 : n < 128
    · have hL := lebL_lt h1
      have h0 : k = 0 := by rw [hL] at hk; simpa using hk
      subst h0
      have : (lebL n)[0]? = some (UInt8.ofNat n) := by rw [hL]; rfl
      rw [List.getElem?_eq_getElem h] at this
      rw [Option.some.inj this]; simp; omega
    · have hL := lebL_ge (n := n) (by omega)
      have hlen : (lebL n).length = (lebL (n / 128)).length + 1 := by rw [hL]; simp
      have hp := lebL_pos (n / 128)
      obtain ⟨j, rfl⟩ : ∃ j, k = j + 1 := ⟨k - 1, by omega⟩
      have := ih (n / 128) (by omega) j (by omega) (by omega)
      have e : (lebL n)[j + 1]? = (lebL (n / 128))[j]? := by rw [hL]; rfl
      rw [List.getElem?_eq_getElem h, List.getElem?_eq_getElem (by omega)] at e
      rw [Option.some.inj e]; exact this

/-- A number with a sign, folded. -/
def fold (n : Int) : Int := if n < 0 then -2 * n - 1 else 2 * n
/-- And back. -/
def unfold' (n : Nat) : Int := if n % 2 = 1 then -((n / 2 : Nat) : Int) - 1 else ((n / 2 : Nat) : Int)
theorem unfold_fold (n : Int) : unfold' (fold n).toNat = n := by
  unfold fold unfold'; split <;> split <;> omega
theorem fold_unfold (n : Nat) : fold (unfold' n) = n := by
  unfold fold unfold'; split <;> split <;> omega
theorem fold_range {n : Int} (h1 : -9223372036854775808 ≤ n) (h2 : n < 9223372036854775808) : 0 ≤ fold n ∧ fold n < 18446744073709551616 := by
  unfold fold; split <;> omega
theorem unfold_range {n : Nat} (h : n < 18446744073709551616) : -9223372036854775808 ≤ unfold' n ∧ unfold' n < 9223372036854775808 := by
  unfold unfold'; split <;> omega

end Go.Proofs.YtobioiicbdhboaaDoor
