/-
  Layer 4 (sept): the plain mathematics of its numbers' bytes. Nothing of the translation is named here.
-/
import Derived.Test.YtobioiicbdhboaaDoorLeb0
import Derived.Lib.ItoaNum
namespace Go.Proofs.YtobioiicbdhboaaDoor
set_option linter.unusedVariables false

/-- A number by so many bytes. -/
def septL : Nat → Nat → List UInt8
  | _, 0 => []
  | n, c + 1 => UInt8.ofNat (n % 128) :: septL (n / 128) c

theorem septL_len : ∀ (c n : Nat), (septL n c).length = c
  | 0, n => rfl
  | c + 1, n => by simp [septL, septL_len c]
theorem septL_low : ∀ (c n : Nat) (x : UInt8), x ∈ septL n c → x.toNat < 128
  | 0, n, x, h => by simp [septL] at h
  | c + 1, n, x, h => by
    simp only [septL, List.mem_cons] at h
    rcases h with rfl | h
    · simp; omega
    · exact septL_low c _ x h
theorem val_septL : ∀ (c n : Nat), val (septL n c) = n % 128 ^ c
  | 0, n => by simp [septL, val, Nat.mod_one]
  | c + 1, n => by
    have h := val_septL c (n / 128)
    have e : (UInt8.ofNat (n % 128)).toNat = n % 128 := by simp; omega
    simp only [septL, val, h, e]
    rw [Nat.pow_succ, Nat.mul_comm (128 ^ c) 128, Nat.mod_mul]
    omega
theorem septL_val : ∀ (l : List UInt8), (∀ x ∈ l, x.toNat < 128) → septL (val l) l.length = l
  | [], _ => rfl
  | b :: l, h => by
    have hb := h b (by simp)
    have hl := septL_val l (fun x hx => h x (by simp [hx]))
    have e1 : (b.toNat % 128 + 128 * val l) % 128 = b.toNat := by omega
    have e2 : (b.toNat % 128 + 128 * val l) / 128 = val l := by omega
    simp only [val, List.length_cons, septL, e1, e2, hl]
    simp
theorem septL_inj {a b c : Nat} (ha : a < 128 ^ c) (hb : b < 128 ^ c) (h : septL a c = septL b c) : a = b := by
  have h1 := congrArg val h
  rw [val_septL, val_septL, Nat.mod_eq_of_lt ha, Nat.mod_eq_of_lt hb] at h1
  exact h1

/-- A byte at place k is refused. -/
def septBad (b k : Nat) : Bool := decide (128 ≤ b) || (decide (1 < b) && decide (k = 9))

/-- What comes at place k, c bytes being asked for yet: the number, the error, how many bytes. -/
def septScan : Nat → Nat → Nat → List UInt8 → Nat × Nat × Nat
  | k, a, 0, _ => (a, 0, k)
  | _, _, _ + 1, [] => (0, 2, 0)
  | k, a, c + 1, b :: l => if septBad b.toNat k then (0, 3, 0) else septScan (k + 1) (a + 128 ^ k * (b.toNat % 128)) c l

/-- As seen behind k of the bytes. -/
def septAt (l : List UInt8) (c k : Nat) : Nat × Nat × Nat := septScan k (val (l.take k)) (c - k) (l.drop k)
/-- What bytes go on with: the number, the error, how many bytes. -/
def septGet (l : List UInt8) (c : Nat) : Nat × Nat × Nat := septAt l c 0

theorem septAt_done {l : List UInt8} {c : Nat} : septAt l c c = (val (l.take c), 0, c) := by
  unfold septAt; rw [Nat.sub_self, septScan]
theorem septAt_end {l : List UInt8} {c k : Nat} (hk : k < c) (h : l.length ≤ k) : septAt l c k = (0, 2, 0) := by
  unfold septAt
  obtain ⟨d, hd⟩ : ∃ d, c - k = d + 1 := ⟨c - k - 1, by omega⟩
  rw [List.drop_eq_nil_of_le h, hd, septScan]
theorem septAt_bad {l : List UInt8} {c k : Nat} (hk : k < c) (h : k < l.length) (hb : septBad l[k].toNat k = true) : septAt l c k = (0, 3, 0) := by
  unfold septAt
  obtain ⟨d, hd⟩ : ∃ d, c - k = d + 1 := ⟨c - k - 1, by omega⟩
  rw [List.drop_eq_getElem_cons h, hd, septScan, if_pos hb]
theorem septAt_go {l : List UInt8} {c k : Nat} (hk : k < c) (h : k < l.length) (hb : septBad l[k].toNat k = false) : septAt l c k = septAt l c (k + 1) := by
  conv => lhs; unfold septAt
  obtain ⟨d, hd⟩ : ∃ d, c - k = d + 1 := ⟨c - k - 1, by omega⟩
  rw [List.drop_eq_getElem_cons h, hd, septScan, if_neg (by simp [hb]), ← val_take_succ l k h, show d = c - (k + 1) from by omega]; rfl

theorem septBad_nine {b : Nat} (h : septBad b 9 = false) : b ≤ 1 := by
  simp [septBad] at h; omega
theorem septBad_low {b k : Nat} (h : septBad b k = false) : b < 128 := by
  simp [septBad] at h; omega

/-- What is got is below 2^64. -/
theorem septScan_lt : ∀ (c : Nat) (l : List UInt8) (k a : Nat), k + c ≤ 10 → a < 128 ^ k → a < 18446744073709551616 → (septScan k a c l).1 < 18446744073709551616
  | 0, l, k, a, _, _, h => by cases l <;> simpa [septScan] using h
  | c + 1, [], k, a, _, _, _ => by simp [septScan]
  | c + 1, b :: l, k, a, hk, ha, h64 => by
    simp only [septScan]
    have hm := Nat.mod_lt b.toNat (show 128 > 0 by omega)
    have hs : a + 128 ^ k * (b.toNat % 128) < 128 ^ (k + 1) := by
      have : 128 ^ k * (b.toNat % 128) ≤ 128 ^ k * 127 := Nat.mul_le_mul_left _ (by omega)
      rw [Nat.pow_succ]; omega
    split
    · simp
    · rename_i hb
      refine septScan_lt c l (k + 1) _ (by omega) hs ?_
      by_cases h9 : k = 9
      · subst h9
        have h1 := septBad_nine (by simpa using hb)
        have h2 : (128 : Nat) ^ 9 * (b.toNat % 128) ≤ 128 ^ 9 * 1 := Nat.mul_le_mul_left _ (by omega)
        have : (128 : Nat) ^ 9 = 9223372036854775808 := by decide
        omega
      · have h18 : (128 : Nat) ^ (k + 1) ≤ 128 ^ 9 := Nat.pow_le_pow_right (by omega) (by omega)
        have : (128 : Nat) ^ 9 = 9223372036854775808 := by decide
        omega
theorem septGet_lt (l : List UInt8) (c : Nat) (h : c ≤ 10) : (septGet l c).1 < 18446744073709551616 := septScan_lt c _ 0 _ (by omega) (by simp [val]) (by simp [val])

/-- A number's bytes are got, whatever stands behind them. -/
theorem septScan_put (rest : List UInt8) : ∀ (c n k a : Nat), k + c ≤ 10 → n < 128 ^ c → n * 128 ^ k < 18446744073709551616 →
    septScan k a c (septL n c ++ rest) = (a + 128 ^ k * n, 0, k + c)
  | 0, n, k, a, _, h, _ => by
    have : n = 0 := by simpa using h
    subst this
    cases rest <;> simp [septScan]
  | c + 1, n, k, a, hk, h, hn => by
    have e : (UInt8.ofNat (n % 128)).toNat = n % 128 := by simp; omega
    have h9 : k = 9 → n ≤ 1 := by
      intro e; subst e
      have : (128 : Nat) ^ 9 = 9223372036854775808 := by decide
      omega
    have hb : septBad (n % 128) k = false := by simp [septBad]; omega
    simp only [septL, List.cons_append, septScan, e, hb]
    rw [if_neg (by simp)]
    have hmul : n / 128 * 128 ^ (k + 1) ≤ n * 128 ^ k := by
      rw [Nat.pow_succ, Nat.mul_comm (128 ^ k) 128, ← Nat.mul_assoc]
      exact Nat.mul_le_mul_right _ (by omega)
    have hlt : n / 128 < 128 ^ c := by rw [Nat.pow_succ] at h; omega
    rw [septScan_put rest c (n / 128) (k + 1) _ (by omega) hlt (by omega)]
    refine Prod.ext ?_ (Prod.ext rfl ?_)
    · show a + 128 ^ k * (n % 128 % 128) + 128 ^ (k + 1) * (n / 128) = a + 128 ^ k * n
      rw [Nat.pow_succ, Nat.mul_assoc, Nat.add_assoc, ← Nat.mul_add]
      congr 2; omega
    · show k + 1 + c = k + (c + 1); omega
theorem septGet_put (n c : Nat) (rest : List UInt8) (hc : c ≤ 10) (hn : n < 128 ^ c) (h : n < 18446744073709551616) : septGet (septL n c ++ rest) c = (n, 0, c) := by
  unfold septGet septAt
  rw [List.drop_zero, List.take_zero, Nat.sub_zero, septScan_put rest c n 0 _ (by omega) hn (by simpa using h)]
  simp [val]

/-- With an error nothing is got, and no byte is gone; without, so many bytes. -/
theorem septScan_err : ∀ (c : Nat) (l : List UInt8) (k a : Nat), (septScan k a c l).2.1 ≠ 0 → (septScan k a c l).1 = 0 ∧ (septScan k a c l).2.2 = 0
  | 0, l, k, a, h => by cases l <;> simp [septScan] at h
  | c + 1, [], k, a, _ => by simp [septScan]
  | c + 1, b :: l, k, a, h => by
    simp only [septScan] at h ⊢
    split
    · simp
    · rename_i hb
      rw [if_neg hb] at h
      exact septScan_err c l _ _ h
theorem septScan_code : ∀ (c : Nat) (l : List UInt8) (k a : Nat), (septScan k a c l).2.1 ≤ 3
  | 0, l, k, a => by cases l <;> simp [septScan]
  | c + 1, [], k, a => by simp [septScan]
  | c + 1, b :: l, k, a => by
    simp only [septScan]
    split
    · simp
    · exact septScan_code c l _ _
/-- Bytes that are got are the bytes of what is got. -/
theorem septScan_ok : ∀ (c : Nat) (l : List UInt8) (k a : Nat), (septScan k a c l).2.1 = 0 → c ≤ l.length ∧ (∀ x ∈ l.take c, x.toNat < 128) ∧ (septScan k a c l).1 = a + 128 ^ k * val (l.take c) ∧ (septScan k a c l).2.2 = k + c
  | 0, l, k, a, h => by cases l <;> simp [septScan, val]
  | c + 1, [], k, a, h => by simp [septScan] at h
  | c + 1, b :: l, k, a, h => by
    simp only [septScan] at h ⊢
    by_cases hb : septBad b.toNat k = true
    · rw [if_pos hb] at h; simp at h
    · rw [if_neg hb] at h ⊢
      obtain ⟨h1, h2, h3, h4⟩ := septScan_ok c l _ _ h
      have hlow := septBad_low (by simpa using hb)
      refine ⟨by simpa using h1, ?_, ?_, by omega⟩
      · intro x hx
        simp only [List.take_succ_cons, List.mem_cons] at hx
        rcases hx with rfl | hx
        · exact hlow
        · exact h2 x hx
      · rw [h3]
        simp only [List.take_succ_cons, val]
        rw [Nat.pow_succ, Nat.mul_assoc, Nat.add_assoc, ← Nat.mul_add]
theorem septGet_back (l : List UInt8) (h : (septGet l l.length).2.1 = 0) : septL (septGet l l.length).1 l.length = l ∧ (septGet l l.length).1 < 128 ^ l.length := by
  unfold septGet septAt at *
  rw [List.drop_zero, List.take_zero, Nat.sub_zero] at *
  obtain ⟨h1, h2, h3, h4⟩ := septScan_ok _ _ _ _ h
  rw [List.take_length] at h2 h3
  have e : (septScan 0 (val []) l.length l).1 = val l := by rw [h3]; simp [val]
  rw [e]
  exact ⟨septL_val l h2, val_lt l⟩

theorem fits_len (n c : Nat) (h : n < 18446744073709551616) : (Lib.bitLen n ≤ 7 * c ↔ n < 128 ^ c) ∧ Lib.bitLen n ≤ 64 := by
  have hp : (128 : Nat) ^ c = 2 ^ (7 * c) := by rw [show (128 : Nat) = 2 ^ 7 from rfl, ← Nat.pow_mul]
  rw [hp]
  by_cases h0 : n = 0
  · subst h0
    have e : Lib.bitLen 0 = 0 := by decide
    rw [e]
    exact ⟨⟨fun _ => Nat.pow_pos (by omega), fun _ => by omega⟩, by omega⟩
  · obtain ⟨b1, b2, b3⟩ := Lib.bitLenAux_bounds 64 n (by omega) (by omega)
    rw [show Lib.bitLenAux 64 n = Lib.bitLen n from rfl] at b1 b2 b3
    generalize Lib.bitLen n = L at *
    refine ⟨⟨fun hl => ?_, fun hl => ?_⟩, ?_⟩
    · have : (2 : Nat) ^ L ≤ 2 ^ (7 * c) := Nat.pow_le_pow_right (by omega) hl
      omega
    · rcases Nat.lt_or_ge (7 * c) L with h | h
      · have : (2 : Nat) ^ (7 * c) ≤ 2 ^ (L - 1) := Nat.pow_le_pow_right (by omega) (by omega)
        omega
      · exact h
    · rcases Nat.lt_or_ge 64 L with h | h
      · have : (2 : Nat) ^ 64 ≤ 2 ^ (L - 1) := Nat.pow_le_pow_right (by omega) (by omega)
        omega
      · exact h

end Go.Proofs.YtobioiicbdhboaaDoor
