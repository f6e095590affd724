/-
  The mathematics of the ready queues over plain numbers: bits of a word, how many there are, rings of tasks chained both ways, rows of tasks level by level. No condition.
-/
namespace Go.Proofs.YtdcadiphebcmbaaDoor
set_option linter.unusedVariables false

/-! ### Bits -/

/-- How many of a number's first bits are 1. -/
def pop : Nat → Nat → Nat
  | 0, _ => 0
  | n + 1, x => x % 2 + pop n (x / 2)

theorem pop_le : ∀ n x, pop n x ≤ n
  | 0, _ => Nat.le_refl _
  | n + 1, x => by
    have := pop_le n (x / 2)
    unfold pop; omega

theorem and_split (j a b c d : Nat) (ha : a < 2 ^ j) (hc : c < 2 ^ j) : (2 ^ j * b + a) &&& (2 ^ j * d + c) = 2 ^ j * (b &&& d) + (a &&& c) := by
  have hac : a &&& c < 2 ^ j := Nat.lt_of_le_of_lt Nat.and_le_left ha
  apply Nat.eq_of_testBit_eq
  intro i
  rw [Nat.testBit_and, Nat.testBit_two_pow_mul_add _ ha, Nat.testBit_two_pow_mul_add _ hc, Nat.testBit_two_pow_mul_add _ hac]
  split
  · rw [Nat.testBit_and]
  · rw [Nat.testBit_and]

/-- Masks of fields. -/
def mk1 : Nat → Nat | 0 => 0 | n + 1 => 4 * mk1 n + 1
def mk2 : Nat → Nat | 0 => 0 | n + 1 => 16 * mk2 n + 3
def mk4 : Nat → Nat | 0 => 0 | n + 1 => 256 * mk4 n + 15
/-- Fields of two, four, eight bits with how many bits of each are 1. -/
def fd2 : Nat → Nat → Nat | 0, _ => 0 | n + 1, x => 4 * fd2 n (x / 4) + pop 2 x
def fd4 : Nat → Nat → Nat | 0, _ => 0 | n + 1, x => 16 * fd4 n (x / 16) + pop 4 x
def fd8 : Nat → Nat → Nat | 0, _ => 0 | n + 1, x => 256 * fd8 n (x / 256) + pop 8 x

theorem fd2_succ (n x : Nat) : fd2 (n + 1) x = 4 * fd2 n (x / 4) + pop 2 x := rfl
theorem fd4_succ (n x : Nat) : fd4 (n + 1) x = 16 * fd4 n (x / 16) + pop 4 x := rfl
theorem fd8_succ (n x : Nat) : fd8 (n + 1) x = 256 * fd8 n (x / 256) + pop 8 x := rfl
theorem pop_succ (n x : Nat) : pop (n + 1) x = x % 2 + pop n (x / 2) := rfl

theorem step1 : ∀ n x, (x / 2 &&& mk1 n) + (x &&& mk1 n) = fd2 n x
  | 0, x => by simp [mk1, fd2]
  | n + 1, x => by
    have h1 := and_split 2 (x % 4) (x / 4) 1 (mk1 n) (by omega) (by decide)
    have h2 := and_split 2 (x / 2 % 4) (x / 4 / 2) 1 (mk1 n) (by omega) (by decide)
    have e1 : 2 ^ 2 * (x / 4) + x % 4 = x := by omega
    have e2 : 2 ^ 2 * (x / 4 / 2) + x / 2 % 4 = x / 2 := by omega
    have a1 : ∀ y, y &&& 1 = y % 2 := fun y => Nat.and_one_is_mod y
    rw [e1, a1] at h1
    rw [e2, a1] at h2
    have ih := step1 n (x / 4)
    unfold mk1 fd2
    have e3 : 4 * mk1 n + 1 = 2 ^ 2 * mk1 n + 1 := by omega
    rw [e3, h1, h2, ← ih]
    simp only [pop]
    omega

theorem a3 (y : Nat) : y &&& 3 = y % 4 := Nat.and_two_pow_sub_one_eq_mod y 2
theorem a15 (y : Nat) : y &&& 15 = y % 16 := Nat.and_two_pow_sub_one_eq_mod y 4

theorem step2 : ∀ n x, (fd2 (2 * n) x / 4 &&& mk2 n) + (fd2 (2 * n) x &&& mk2 n) = fd4 n x
  | 0, x => by simp [mk2, fd4, fd2]
  | n + 1, x => by
    have ih := step2 n (x / 16)
    have p1 := pop_le 2 x
    have p2 := pop_le 2 (x / 4)
    have hp : pop 4 x = pop 2 x + pop 2 (x / 4) := by simp only [pop]; omega
    have hf : fd2 (2 * (n + 1)) x = 4 * (4 * fd2 (2 * n) (x / 16) + pop 2 (x / 4)) + pop 2 x := by
      rw [show 2 * (n + 1) = 2 * n + 1 + 1 by omega, fd2_succ, fd2_succ, show x / 4 / 4 = x / 16 by omega]
    generalize fd2 (2 * n) (x / 16) = y at *
    have h1 := and_split 4 (4 * pop 2 (x / 4) + pop 2 x) y 3 (mk2 n) (by omega) (by decide)
    have h2 := and_split 4 (4 * (y % 4) + pop 2 (x / 4)) (y / 4) 3 (mk2 n) (by omega) (by decide)
    have e1 : 2 ^ 4 * y + (4 * pop 2 (x / 4) + pop 2 x) = fd2 (2 * (n + 1)) x := by omega
    have e2 : 2 ^ 4 * (y / 4) + (4 * (y % 4) + pop 2 (x / 4)) = fd2 (2 * (n + 1)) x / 4 := by omega
    rw [e1, a3] at h1
    rw [e2, a3] at h2
    unfold mk2 fd4
    have e3 : 16 * mk2 n + 3 = 2 ^ 4 * mk2 n + 3 := by omega
    rw [e3, h1, h2, ← ih, hp]
    omega

theorem step4 : ∀ n x, (fd4 (2 * n) x / 16 + fd4 (2 * n) x) &&& mk4 n = fd8 n x
  | 0, x => by simp [mk4, fd8]
  | n + 1, x => by
    have ih := step4 n (x / 256)
    have p1 := pop_le 4 x
    have p2 := pop_le 4 (x / 16)
    have hp : pop 8 x = pop 4 x + pop 4 (x / 16) := by simp only [pop]; omega
    have hf : fd4 (2 * (n + 1)) x = 16 * (16 * fd4 (2 * n) (x / 256) + pop 4 (x / 16)) + pop 4 x := by
      rw [show 2 * (n + 1) = 2 * n + 1 + 1 by omega, fd4_succ, fd4_succ, show x / 16 / 16 = x / 256 by omega]
    have hy : fd4 (2 * n) (x / 256) % 16 ≤ 4 := by
      cases n with
      | zero => simp [fd4]
      | succ n =>
        have := pop_le 4 (x / 256)
        rw [show 2 * (n + 1) = 2 * n + 1 + 1 by omega, fd4_succ]
        omega
    generalize fd4 (2 * n) (x / 256) = y at *
    have h1 := and_split 8 (16 * (y % 16 + pop 4 (x / 16)) + (pop 4 x + pop 4 (x / 16))) (y / 16 + y) 15 (mk4 n) (by omega) (by decide)
    have e1 : 2 ^ 8 * (y / 16 + y) + (16 * (y % 16 + pop 4 (x / 16)) + (pop 4 x + pop 4 (x / 16))) = fd4 (2 * (n + 1)) x / 16 + fd4 (2 * (n + 1)) x := by omega
    rw [e1, a15] at h1
    unfold mk4 fd8
    have e3 : 256 * mk4 n + 15 = 2 ^ 8 * mk4 n + 15 := by omega
    rw [e3, h1, ih, hp]
    omega

theorem pop_add : ∀ m n x, pop (m + n) x = pop m x + pop n (x / 2 ^ m)
  | 0, n, x => by simp [pop]
  | m + 1, n, x => by
    rw [show m + 1 + n = (m + n) + 1 by omega]
    rw [pop_succ, pop_succ, pop_add m n (x / 2), Nat.div_div_eq_div_mul, Nat.pow_succ, Nat.mul_comm 2, Nat.add_assoc]

/-- Eight fields of eight bits, added up by halves. -/
theorem step8 (x : Nat) : ∃ c0 c1 c2 c3 c4 c5 c6 c7 : Nat, fd8 8 x = c0 + 256 * (c1 + 256 * (c2 + 256 * (c3 + 256 * (c4 + 256 * (c5 + 256 * (c6 + 256 * c7)))))) ∧
    c0 ≤ 8 ∧ c1 ≤ 8 ∧ c2 ≤ 8 ∧ c3 ≤ 8 ∧ c4 ≤ 8 ∧ c5 ≤ 8 ∧ c6 ≤ 8 ∧ c7 ≤ 8 ∧ pop 64 x = c0 + c1 + c2 + c3 + c4 + c5 + c6 + c7 := by
  refine ⟨pop 8 x, pop 8 (x / 2 ^ 8), pop 8 (x / 2 ^ 16), pop 8 (x / 2 ^ 24), pop 8 (x / 2 ^ 32), pop 8 (x / 2 ^ 40), pop 8 (x / 2 ^ 48), pop 8 (x / 2 ^ 56), ?_, pop_le _ _, pop_le _ _, pop_le _ _, pop_le _ _, pop_le _ _, pop_le _ _, pop_le _ _, pop_le _ _, ?_⟩
  · simp only [fd8, Nat.div_div_eq_div_mul, Nat.reduceMul, Nat.reducePow]
    omega
  · have h : ∀ k, pop (8 + k) x = pop 8 x + pop k (x / 2 ^ 8) := fun k => pop_add 8 k x
    rw [show 64 = 8 + (8 + (8 + (8 + (8 + (8 + (8 + 8)))))) by rfl]
    simp only [pop_add 8, Nat.div_div_eq_div_mul, Nat.reduceMul, Nat.reducePow]
    omega

theorem half1 (c0 c1 c2 c3 c4 c5 c6 c7 : Nat) (h0 : c0 ≤ 8) (h1 : c1 ≤ 8) (h2 : c2 ≤ 8) (h3 : c3 ≤ 8) (h4 : c4 ≤ 8) (h5 : c5 ≤ 8) (h6 : c6 ≤ 8) (h7 : c7 ≤ 8) :
    (c0 + 256 * (c1 + 256 * (c2 + 256 * (c3 + 256 * (c4 + 256 * (c5 + 256 * (c6 + 256 * c7))))))) / 256 = c1 + 256 * (c2 + 256 * (c3 + 256 * (c4 + 256 * (c5 + 256 * (c6 + 256 * c7))))) := by
  rw [Nat.add_mul_div_left _ _ (by decide), Nat.div_eq_of_lt (by omega), Nat.zero_add]
theorem half2 (d0 d1 r : Nat) (h0 : d0 ≤ 16) (h1 : d1 ≤ 16) : (d0 + 256 * (d1 + 256 * r)) / 65536 = r := by
  have e : d0 + 256 * (d1 + 256 * r) = (d0 + 256 * d1) + 65536 * r := by omega
  rw [e, Nat.add_mul_div_left _ _ (by decide), Nat.div_eq_of_lt (by omega), Nat.zero_add]
theorem half3 (d0 d1 d2 d3 r : Nat) (h0 : d0 ≤ 32) (h1 : d1 ≤ 32) (h2 : d2 ≤ 32) (h3 : d3 ≤ 32) : (d0 + 256 * (d1 + 256 * (d2 + 256 * (d3 + 256 * r)))) / 4294967296 = r := by
  have e : d0 + 256 * (d1 + 256 * (d2 + 256 * (d3 + 256 * r))) = (d0 + 256 * (d1 + 256 * (d2 + 256 * d3))) + 4294967296 * r := by omega
  rw [e, Nat.add_mul_div_left _ _ (Nat.lt_of_sub_pos (by simp)), Nat.div_eq_of_lt (by omega), Nat.zero_add]
theorem fits8 (d0 d1 d2 d3 d4 d5 d6 d7 : Nat) (h0 : d0 ≤ 64) (h1 : d1 ≤ 64) (h2 : d2 ≤ 64) (h3 : d3 ≤ 64) (h4 : d4 ≤ 64) (h5 : d5 ≤ 64) (h6 : d6 ≤ 64) (h7 : d7 ≤ 64) :
    d0 + 256 * (d1 + 256 * (d2 + 256 * (d3 + 256 * (d4 + 256 * (d5 + 256 * (d6 + 256 * d7)))))) < 18446744073709551616 := by omega

/-- The three last steps. -/
def on1 (y : Nat) : Nat := (y + y / 256) % 18446744073709551616
def on2 (y : Nat) : Nat := (y + y / 65536) % 18446744073709551616
def on3 (y : Nat) : Nat := (y + y / 4294967296) % 18446744073709551616

theorem on1_is (c0 c1 c2 c3 c4 c5 c6 c7 : Nat) (h0 : c0 ≤ 8) (h1 : c1 ≤ 8) (h2 : c2 ≤ 8) (h3 : c3 ≤ 8) (h4 : c4 ≤ 8) (h5 : c5 ≤ 8) (h6 : c6 ≤ 8) (h7 : c7 ≤ 8) :
    on1 (c0 + 256 * (c1 + 256 * (c2 + 256 * (c3 + 256 * (c4 + 256 * (c5 + 256 * (c6 + 256 * c7))))))) = (c0 + c1) + 256 * ((c1 + c2) + 256 * ((c2 + c3) + 256 * ((c3 + c4) + 256 * ((c4 + c5) + 256 * ((c5 + c6) + 256 * ((c6 + c7) + 256 * c7)))))) := by
  unfold on1
  rw [half1 _ _ _ _ _ _ _ _ h0 h1 h2 h3 h4 h5 h6 h7]
  have e : (c0 + 256 * (c1 + 256 * (c2 + 256 * (c3 + 256 * (c4 + 256 * (c5 + 256 * (c6 + 256 * c7))))))) + (c1 + 256 * (c2 + 256 * (c3 + 256 * (c4 + 256 * (c5 + 256 * (c6 + 256 * c7)))))) = (c0 + c1) + 256 * ((c1 + c2) + 256 * ((c2 + c3) + 256 * ((c3 + c4) + 256 * ((c4 + c5) + 256 * ((c5 + c6) + 256 * ((c6 + c7) + 256 * c7)))))) := by omega
  rw [e]
  exact Nat.mod_eq_of_lt (fits8 _ _ _ _ _ _ _ _ (by omega) (by omega) (by omega) (by omega) (by omega) (by omega) (by omega) (by omega))
theorem on2_is (d0 d1 d2 d3 d4 d5 d6 d7 : Nat) (h0 : d0 ≤ 16) (h1 : d1 ≤ 16) (h2 : d2 ≤ 16) (h3 : d3 ≤ 16) (h4 : d4 ≤ 16) (h5 : d5 ≤ 16) (h6 : d6 ≤ 16) (h7 : d7 ≤ 16) :
    on2 (d0 + 256 * (d1 + 256 * (d2 + 256 * (d3 + 256 * (d4 + 256 * (d5 + 256 * (d6 + 256 * d7))))))) = (d0 + d2) + 256 * ((d1 + d3) + 256 * ((d2 + d4) + 256 * ((d3 + d5) + 256 * ((d4 + d6) + 256 * ((d5 + d7) + 256 * (d6 + 256 * d7)))))) := by
  unfold on2
  rw [half2 _ _ _ h0 h1]
  have e : (d0 + 256 * (d1 + 256 * (d2 + 256 * (d3 + 256 * (d4 + 256 * (d5 + 256 * (d6 + 256 * d7))))))) + (d2 + 256 * (d3 + 256 * (d4 + 256 * (d5 + 256 * (d6 + 256 * d7))))) = (d0 + d2) + 256 * ((d1 + d3) + 256 * ((d2 + d4) + 256 * ((d3 + d5) + 256 * ((d4 + d6) + 256 * ((d5 + d7) + 256 * (d6 + 256 * d7)))))) := by omega
  rw [e]
  exact Nat.mod_eq_of_lt (fits8 _ _ _ _ _ _ _ _ (by omega) (by omega) (by omega) (by omega) (by omega) (by omega) (by omega) (by omega))
theorem on3_is (d0 d1 d2 d3 d4 d5 d6 d7 : Nat) (h0 : d0 ≤ 32) (h1 : d1 ≤ 32) (h2 : d2 ≤ 32) (h3 : d3 ≤ 32) (h4 : d4 ≤ 32) (h5 : d5 ≤ 32) (h6 : d6 ≤ 32) (h7 : d7 ≤ 32) :
    on3 (d0 + 256 * (d1 + 256 * (d2 + 256 * (d3 + 256 * (d4 + 256 * (d5 + 256 * (d6 + 256 * d7))))))) = (d0 + d4) + 256 * ((d1 + d5) + 256 * ((d2 + d6) + 256 * ((d3 + d7) + 256 * (d4 + 256 * (d5 + 256 * (d6 + 256 * d7)))))) := by
  unfold on3
  rw [half3 _ _ _ _ _ h0 h1 h2 h3]
  have e : (d0 + 256 * (d1 + 256 * (d2 + 256 * (d3 + 256 * (d4 + 256 * (d5 + 256 * (d6 + 256 * d7))))))) + (d4 + 256 * (d5 + 256 * (d6 + 256 * d7))) = (d0 + d4) + 256 * ((d1 + d5) + 256 * ((d2 + d6) + 256 * ((d3 + d7) + 256 * (d4 + 256 * (d5 + 256 * (d6 + 256 * d7)))))) := by omega
  rw [e]
  exact Nat.mod_eq_of_lt (fits8 _ _ _ _ _ _ _ _ (by omega) (by omega) (by omega) (by omega) (by omega) (by omega) (by omega) (by omega))

theorem ones_is (x : Nat) : on3 (on2 (on1 (fd8 8 x))) % 128 = pop 64 x := by
  obtain ⟨c0, c1, c2, c3, c4, c5, c6, c7, hf, h0, h1, h2, h3, h4, h5, h6, h7, hp⟩ := step8 x
  rw [hp, hf, on1_is _ _ _ _ _ _ _ _ h0 h1 h2 h3 h4 h5 h6 h7, on2_is _ _ _ _ _ _ _ _ (by omega) (by omega) (by omega) (by omega) (by omega) (by omega) (by omega) (by omega),
    on3_is _ _ _ _ _ _ _ _ (by omega) (by omega) (by omega) (by omega) (by omega) (by omega) (by omega) (by omega)]
  clear hf hp
  generalize (c1 + c2 + (c3 + c4) + (c5 + c6 + c7) + 256 * _) = y
  omega

theorem ones_lt (x : Nat) : on3 (on2 (on1 (fd8 8 x))) < 9223372036854775808 := by
  obtain ⟨c0, c1, c2, c3, c4, c5, c6, c7, hf, h0, h1, h2, h3, h4, h5, h6, h7, hp⟩ := step8 x
  rw [hf, on1_is _ _ _ _ _ _ _ _ h0 h1 h2 h3 h4 h5 h6 h7, on2_is _ _ _ _ _ _ _ _ (by omega) (by omega) (by omega) (by omega) (by omega) (by omega) (by omega) (by omega),
    on3_is _ _ _ _ _ _ _ _ (by omega) (by omega) (by omega) (by omega) (by omega) (by omega) (by omega) (by omega)]
  clear hf hp
  omega
theorem fd8_lt (x : Nat) : fd8 8 x < 9223372036854775808 := by
  obtain ⟨c0, c1, c2, c3, c4, c5, c6, c7, hf, h0, h1, h2, h3, h4, h5, h6, h7, hp⟩ := step8 x
  rw [hf]
  omega
theorem fd2_lt : ∀ n x, fd2 n x < 4 ^ n
  | 0, x => by simp [fd2]
  | n + 1, x => by
    have := fd2_lt n (x / 4)
    have := pop_le 2 x
    rw [fd2_succ, Nat.pow_succ]; omega
theorem fd4_lt : ∀ n x, 15 * fd4 n x + 4 ≤ 4 * 16 ^ n
  | 0, x => by simp [fd4]
  | n + 1, x => by
    have := fd4_lt n (x / 16)
    have := pop_le 4 x
    rw [fd4_succ, Nat.pow_succ]; omega

theorem mk1_32 : mk1 32 = 6148914691236517205 := by decide +kernel
theorem mk2_16 : mk2 16 = 3689348814741910323 := by decide +kernel
theorem mk4_8 : mk4 8 = 1085102592571150095 := by decide +kernel

/-- A bit set, a bit cleared. -/
def bset (S t : Nat) : Nat := S ||| 2 ^ t
def bclr (S t : Nat) : Nat := S ^^^ (S &&& 2 ^ t)
theorem bset_bit (S t i : Nat) : (bset S t).testBit i = (S.testBit i || decide (t = i)) := by
  unfold bset; rw [Nat.testBit_or, Nat.testBit_two_pow]
theorem bclr_bit (S t i : Nat) : (bclr S t).testBit i = (S.testBit i && !decide (t = i)) := by
  unfold bclr; rw [Nat.testBit_xor, Nat.testBit_and, Nat.testBit_two_pow]
  cases S.testBit i <;> cases decide (t = i) <;> rfl
theorem bset_lt {S t n : Nat} (h : S < 2 ^ n) (ht : t < n) : bset S t < 2 ^ n := Nat.or_lt_two_pow h (Nat.pow_lt_pow_right (by decide) ht)
theorem bclr_lt {S t n : Nat} (h : S < 2 ^ n) : bclr S t < 2 ^ n := Nat.xor_lt_two_pow h (Nat.lt_of_le_of_lt Nat.and_le_left h)

/-- How many bits are 1, by the list of them. -/
theorem pop_len : ∀ n x, pop n x = ((List.range n).filter fun i => x.testBit i).length := by
  intro n
  induction n with
  | zero => intro x; rfl
  | succ n ih =>
    intro x
    have h1 := pop_add n 1 x
    rw [h1, ih x, List.range_succ, List.filter_append, List.length_append]
    congr 1
    simp only [pop, List.filter_cons, List.filter_nil, Nat.add_zero]
    rw [Nat.testBit_eq_decide_div_mod_eq]
    by_cases h : x / 2 ^ n % 2 = 1
    · simp [h]
    · simp [h]; omega

theorem sub_len {l m : List Nat} (hl : l.Nodup) (h : ∀ x ∈ l, x ∈ m) : l.length ≤ m.length := by
  induction l generalizing m with
  | nil => simp
  | cons a l ih =>
    rw [List.nodup_cons] at hl
    have ha := h a List.mem_cons_self
    have := ih (m := m.erase a) hl.2 (fun x hx => by
      have hne : x ≠ a := fun e => hl.1 (e ▸ hx)
      exact (List.mem_erase_of_ne hne).2 (h x (List.mem_cons_of_mem _ hx)))
    rw [List.length_erase_of_mem ha] at this
    have : 0 < m.length := List.length_pos_of_mem ha
    simp only [List.length_cons]; omega

end Go.Proofs.YtdcadiphebcmbaaDoor
