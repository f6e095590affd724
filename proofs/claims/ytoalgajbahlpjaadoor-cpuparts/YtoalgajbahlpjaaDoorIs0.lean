/-
  The mathematics of isa, over plain numbers: the instructions' names, fields and cycles, which instructions can be, where they may stand, what they cost; and that the document's own way of saying it comes to the same. No condition.
-/
import Derived.Test.YtoalgajbahlpjaaDoorBase
namespace Go.Proofs.YtoalgajbahlpjaaDoor
open Go
set_option linter.unusedVariables false
set_option linter.unusedSimpArgs false

/-- The instructions: name, fields (A 1, B 2, C 4, D 8, K 16), cycles (-1: as many as K says). -/
def irowsT : List (List UInt8 × Nat × Int) := [([], 0, 0),
  ([115, 101, 116], 17, 1),
  ([109, 111, 118], 3, 1),
  ([97, 100, 100], 7, 1),
  ([115, 117, 98], 7, 1),
  ([109, 117, 108], 7, 3),
  ([100, 105, 118], 7, 8),
  ([109, 111, 100], 7, 8),
  ([97, 110, 100], 7, 1),
  ([111, 114], 7, 1),
  ([120, 111, 114], 7, 1),
  ([115, 104, 108], 7, 1),
  ([115, 104, 114], 7, 1),
  ([108, 116], 7, 1),
  ([101, 113], 7, 1),
  ([108, 111, 97, 100], 19, 2),
  ([115, 116, 111, 114, 101], 19, 2),
  ([106, 109, 112], 16, 1),
  ([106, 122], 17, 1),
  ([106, 110, 122], 17, 1),
  ([119, 111, 114, 107], 16, -1),
  ([105, 110], 17, 6),
  ([111, 117, 116], 17, 6),
  ([109, 97, 115, 107], 1, 1),
  ([115, 101, 108, 102], 1, 1),
  ([110, 111, 119], 1, 1),
  ([112, 111, 115, 116], 17, 12),
  ([115, 101, 110, 100], 31, 12),
  ([114, 101, 99, 118], 31, 12),
  ([97, 114, 109], 21, 12),
  ([100, 105, 115, 97, 114, 109], 17, 12),
  ([108, 111, 99, 107], 17, 12),
  ([117, 110, 108, 111, 99, 107], 17, 12),
  ([119, 97, 105, 116], 29, 12),
  ([115, 108, 101, 101, 112], 5, 12),
  ([121, 105, 101, 108, 100], 0, 12),
  ([110, 101, 120, 116], 0, 12),
  ([104, 97, 108, 116], 0, 12),
  ([105, 114, 101, 116], 0, 4)]

def irowT (k : Nat) : List UInt8 × Nat × Int := irowsT.getD k ([], 0, 0)
def inameL (k : Nat) : List UInt8 := (irowT k).1
def ihas (k : Nat) : Nat := (irowT k).2.1
def icyc (k : Nat) : Int := (irowT k).2.2
def inameB (k : Nat) : ByteArray := bytesOf (inameL k)

def opB (op : Int) : Bool := decide (1 ≤ op) && decide (op ≤ 38)
def hbit (h j : Nat) : Bool := decide (h / 2 ^ j % 2 = 1)
/-- Has the instruction this field (A 0, B 1, C 2, D 3, K 4)? -/
def hasF (j : Nat) (op : Int) : Bool := opB op && hbit (ihas op.toNat) j

theorem op_nat {op : Int} (h : opB op = true) : ∃ n : Nat, op = n ∧ 1 ≤ n ∧ n ≤ 38 := by
  simp only [opB, Bool.and_eq_true, decide_eq_true_eq] at h
  exact ⟨op.toNat, by omega, by omega, by omega⟩
theorem ops38 {n : Nat} (h1 : 1 ≤ n) (h2 : n ≤ 38) : n = 1 ∨ n = 2 ∨ n = 3 ∨ n = 4 ∨ n = 5 ∨ n = 6 ∨ n = 7 ∨ n = 8 ∨ n = 9 ∨ n = 10 ∨ n = 11 ∨ n = 12 ∨ n = 13 ∨ n = 14 ∨ n = 15 ∨ n = 16 ∨ n = 17 ∨ n = 18 ∨ n = 19 ∨ n = 20 ∨ n = 21 ∨ n = 22 ∨ n = 23 ∨ n = 24 ∨ n = 25 ∨ n = 26 ∨ n = 27 ∨ n = 28 ∨ n = 29 ∨ n = 30 ∨ n = 31 ∨ n = 32 ∨ n = 33 ∨ n = 34 ∨ n = 35 ∨ n = 36 ∨ n = 37 ∨ n = 38 := by omega
theorem opB_nat {n : Nat} (h1 : 1 ≤ n) (h2 : n ≤ 38) : opB (n : Int) = true := by simp [opB]; omega
theorem hasF_nat {n j : Nat} (h1 : 1 ≤ n) (h2 : n ≤ 38) : hasF j (n : Int) = hbit (ihas n) j := by simp [hasF, opB_nat h1 h2]
theorem hasF_not {op : Int} {j : Nat} (h : opB op = false) : hasF j op = false := by simp [hasF, h]
theorem ihas_is : ∀ i : Fin 39, ihas i.val = 0 ∨ ihas i.val = 1 ∨ ihas i.val = 3 ∨ ihas i.val = 5 ∨ ihas i.val = 7 ∨ ihas i.val = 16 ∨ ihas i.val = 17 ∨ ihas i.val = 19 ∨ ihas i.val = 21 ∨ ihas i.val = 29 ∨ ihas i.val = 31 := by decide +kernel

/-- An instruction. -/
structure Ins where
  op : Int
  a : Int
  b : Int
  c : Int
  d : Int
  k : Nat

def ins0 : Ins := ⟨0, 0, 0, 0, 0, 0⟩

/-- Its numbers fit their kinds. -/
structure InsFits (i : Ins) : Prop where
  op1 : -9223372036854775808 ≤ i.op
  op2 : i.op ≤ 9223372036854775807
  a1 : -9223372036854775808 ≤ i.a
  a2 : i.a ≤ 9223372036854775807
  b1 : -9223372036854775808 ≤ i.b
  b2 : i.b ≤ 9223372036854775807
  c1 : -9223372036854775808 ≤ i.c
  c2 : i.c ≤ 9223372036854775807
  d1 : -9223372036854775808 ≤ i.d
  d2 : i.d ≤ 9223372036854775807
  k : i.k < 4294967296

def within8 (n bound : Int) (has : Bool) : Bool := decide (n = 0) || (has && decide (0 < n) && decide (n < bound))
def kOk (op : Int) (k : Nat) (has : Bool) : Bool := if op = 20 then decide (1 ≤ k) && decide (k ≤ 1000) else if op = 21 then decide (k < 16) else if op = 22 then decide (k < 16) else has || decide (k = 0)
def cHas (op d : Int) : Bool := hasF 2 op && (!hasF 3 op || decide (d = 2))
/-- 0: it can be; else the error. -/
def formI (i : Ins) : Int :=
  if opB i.op = false then 14
  else if (within8 i.a 8 (hasF 0 i.op) && within8 i.b 8 (hasF 1 i.op) && within8 i.c 8 (cHas i.op i.d)) = false then 5
  else if (within8 i.d 3 (hasF 3 i.op) && kOk i.op i.k (hasF 4 i.op)) = false then 5 else 0

def lineB (op d : Int) : Bool := if op = 27 then decide (d = 1) else if op = 28 then decide (d = 1) else decide (op ≤ 30) || decide (op = 38)
def jumpB (op : Int) : Bool := decide (op = 17) || decide (op = 18) || decide (op = 19)
def checkI (i : Ins) (size : Int) (isr : Bool) : Int :=
  if formI i ≠ 0 then formI i
  else if ((isr && !lineB i.op i.d) || (!isr && decide (i.op = 38))) = true then 14
  else if (jumpB i.op && decide (size ≤ (i.k : Int))) = true then 5 else 0
def costI (i : Ins) : Int := if formI i ≠ 0 then 0 else if icyc i.op.toNat = -1 then (i.k : Int) else icyc i.op.toNat

/-- The instruction of that name; 0: none. -/
def opOf (l : List UInt8) : Nat := match (List.range 38).find? (fun i => inameL (i + 1) == l) with
  | some i => i + 1
  | none => 0

theorem inames_apart : ∀ i : Fin 38, ∀ j : Fin 38, inameL (i.val + 1) = inameL (j.val + 1) → i = j := by decide +kernel
theorem inames_some : ∀ i : Fin 38, inameL (i.val + 1) ≠ [] := by decide +kernel

theorem opOf_le (l : List UInt8) : opOf l ≤ 38 := by
  unfold opOf
  split
  · rename_i i h
    have := List.mem_of_find?_eq_some h
    simp at this; omega
  · omega
theorem opOf_name {l : List UInt8} (h : opOf l ≠ 0) : inameL (opOf l) = l := by
  unfold opOf at *
  split at *
  · rename_i i hi
    have := List.find?_some hi
    simpa using this
  · exact absurd rfl h
theorem opOf_is {k : Nat} {l : List UInt8} (h1 : 1 ≤ k) (h2 : k ≤ 38) (h : inameL k = l) : opOf l = k := by
  unfold opOf
  split
  · rename_i i hi
    have hm := List.mem_of_find?_eq_some hi
    have hn := List.find?_some hi
    simp only [beq_iff_eq] at hn
    simp only [List.mem_range] at hm
    have := inames_apart ⟨i, hm⟩ ⟨k - 1, by omega⟩ (by simp only [show k - 1 + 1 = k by omega]; rw [hn, h])
    simp only [Fin.mk.injEq] at this
    omega
  · rename_i hn
    have := List.find?_eq_none.1 hn (k - 1) (by simp; omega)
    rw [show k - 1 + 1 = k by omega, h] at this
    simp at this
theorem opOf_none {l : List UInt8} (h : ∀ k, 1 ≤ k → k ≤ 38 → inameL k ≠ l) : opOf l = 0 := by
  by_cases h0 : opOf l = 0
  · exact h0
  · exact absurd (opOf_name h0) (h _ (by omega) (opOf_le l))

/-! ### As the document says it -/

def hasL (k : Int) : List UInt8 := if k = 1 then [65, 75] else if k = 18 then [65, 75] else if k = 19 then [65, 75] else if k = 21 then [65, 75] else if k = 22 then [65, 75] else if k = 26 then [65, 75] else if k = 30 then [65, 75] else if k = 31 then [65, 75] else if k = 32 then [65, 75] else if k = 2 then [65, 66] else if k = 3 then [65, 66, 67] else if k = 4 then [65, 66, 67] else if k = 5 then [65, 66, 67] else if k = 6 then [65, 66, 67] else if k = 7 then [65, 66, 67] else if k = 8 then [65, 66, 67] else if k = 9 then [65, 66, 67] else if k = 10 then [65, 66, 67] else if k = 11 then [65, 66, 67] else if k = 12 then [65, 66, 67] else if k = 13 then [65, 66, 67] else if k = 14 then [65, 66, 67] else if k = 15 then [65, 66, 75] else if k = 16 then [65, 66, 75] else if k = 17 then [75] else if k = 20 then [75] else if k = 23 then [65] else if k = 24 then [65] else if k = 25 then [65] else if k = 27 then [65, 66, 67, 68, 75] else if k = 28 then [65, 66, 67, 68, 75] else if k = 29 then [65, 67, 75] else if k = 33 then [65, 67, 68, 75] else if k = 34 then [65, 67] else []
def inL (l : List UInt8) (c : UInt8) : Bool := l.contains c

theorem hasL_not {k : Int} (h : opB k = false) : hasL k = [] := by
  have h' : k < 1 ∨ 38 < k := by simp [opB] at h; omega
  unfold hasL
  repeat rw [if_neg (by omega)]
theorem hasL_fin : ∀ i : Fin 39, inL (hasL (i.val : Int)) 65 = hbit (ihas i.val) 0 ∧ inL (hasL (i.val : Int)) 66 = hbit (ihas i.val) 1 ∧ inL (hasL (i.val : Int)) 67 = hbit (ihas i.val) 2 ∧ inL (hasL (i.val : Int)) 68 = hbit (ihas i.val) 3 ∧ inL (hasL (i.val : Int)) 75 = hbit (ihas i.val) 4 := by decide +kernel
theorem hasL_is (k : Int) : inL (hasL k) 65 = hasF 0 k ∧ inL (hasL k) 66 = hasF 1 k ∧ inL (hasL k) 67 = hasF 2 k ∧ inL (hasL k) 68 = hasF 3 k ∧ inL (hasL k) 75 = hasF 4 k := by
  cases h : opB k with
  | false => rw [hasL_not h]; simp [hasF, h, inL]
  | true =>
    obtain ⟨n, rfl, n1, n2⟩ := op_nat h
    have := hasL_fin ⟨n, by omega⟩
    simp only [hasF, h, Bool.true_and, Int.toNat_natCast]
    exact this

def rbad1 (i : Ins) : Bool := decide (i.a < 0) || decide (7 < i.a) || decide (i.b < 0) || decide (7 < i.b) || decide (i.c < 0) || decide (7 < i.c) || decide (i.d < 0) || decide (2 < i.d)
def rbad2 (i : Ins) (hA hB hC hD hK : Bool) : Bool := (!hA && decide (i.a ≠ 0)) || (!hB && decide (i.b ≠ 0)) || (!hC && decide (i.c ≠ 0)) || (!hD && decide (i.d ≠ 0)) || (!hK && decide (i.k ≠ 0))
def rbad3 (i : Ins) (hD : Bool) : Bool := hD && decide (i.d ≠ 2) && decide (i.c ≠ 0)
def rbad4 (i : Ins) : Bool := (decide (i.op = 20) && (decide (i.k < 1) || decide (1000 < i.k))) || ((decide (i.op = 21) || decide (i.op = 22)) && decide (15 < i.k))
def rformI (i : Ins) (hA hB hC hD hK : Bool) : Int :=
  if opB i.op = false then 14 else if rbad1 i = true then 5 else if rbad2 i hA hB hC hD hK = true then 5 else if rbad3 i hD = true then 5 else if rbad4 i = true then 5 else 0

theorem hasK_ports : hasF 4 20 = true ∧ hasF 4 21 = true ∧ hasF 4 22 = true := by decide +kernel

theorem form_two (i : Ins) : formI i = 14 ∨ formI i = 5 ∨ formI i = 0 := by
  unfold formI
  split
  · simp
  · split
    · simp
    · split <;> simp

theorem rform_is (i : Ins) : rformI i (hasF 0 i.op) (hasF 1 i.op) (hasF 2 i.op) (hasF 3 i.op) (hasF 4 i.op) = formI i := by
  obtain ⟨p20, p21, p22⟩ := hasK_ports
  have hk : (i.op = 20 ∨ i.op = 21 ∨ i.op = 22) → hasF 4 i.op = true := by
    rintro (h | h | h) <;> rw [h] <;> assumption
  cases ho : opB i.op with
  | false => simp [rformI, formI, ho]
  | true =>
    obtain ⟨op, a, b, c, d, k⟩ := i
    simp only at *
    have e1 : rformI ⟨op, a, b, c, d, k⟩ (hasF 0 op) (hasF 1 op) (hasF 2 op) (hasF 3 op) (hasF 4 op) = if (rbad1 ⟨op, a, b, c, d, k⟩ || rbad2 ⟨op, a, b, c, d, k⟩ (hasF 0 op) (hasF 1 op) (hasF 2 op) (hasF 3 op) (hasF 4 op) || rbad3 ⟨op, a, b, c, d, k⟩ (hasF 3 op) || rbad4 ⟨op, a, b, c, d, k⟩) = true then 5 else 0 := by
      unfold rformI
      simp only [ho]
      cases rbad1 _ <;> cases rbad2 _ _ _ _ _ _ <;> cases rbad3 _ _ <;> cases rbad4 _ <;> rfl
    have e2 : formI ⟨op, a, b, c, d, k⟩ = if (within8 a 8 (hasF 0 op) && within8 b 8 (hasF 1 op) && within8 c 8 (cHas op d) && within8 d 3 (hasF 3 op) && kOk op k (hasF 4 op)) = true then 0 else 5 := by
      unfold formI
      simp only [ho]
      cases within8 a 8 _ <;> cases within8 b 8 _ <;> cases within8 c 8 _ <;> cases within8 d 3 _ <;> cases kOk op k _ <;> rfl
    rw [e1, e2]
    have key : (rbad1 ⟨op, a, b, c, d, k⟩ || rbad2 ⟨op, a, b, c, d, k⟩ (hasF 0 op) (hasF 1 op) (hasF 2 op) (hasF 3 op) (hasF 4 op) || rbad3 ⟨op, a, b, c, d, k⟩ (hasF 3 op) || rbad4 ⟨op, a, b, c, d, k⟩) = !(within8 a 8 (hasF 0 op) && within8 b 8 (hasF 1 op) && within8 c 8 (cHas op d) && within8 d 3 (hasF 3 op) && kOk op k (hasF 4 op)) := by
      clear e1 e2 ho p20 p21 p22
      unfold rbad1 rbad2 rbad3 rbad4 within8 cHas kOk
      simp only
      generalize hasF 0 op = hA at *
      generalize hasF 1 op = hB at *
      generalize hasF 2 op = hC at *
      generalize hasF 3 op = hD at *
      generalize hasF 4 op = hK at *
      refine bool_eq ?_
      by_cases h20 : op = 20
      · have hK' := hk (.inl h20)
        subst hK'
        simp only [h20, if_true]
        cases hA <;> cases hB <;> cases hC <;> cases hD <;> simp <;> omega
      · by_cases h21 : op = 21
        · have hK' := hk (.inr (.inl h21))
          subst hK'
          simp only [h21, if_true]
          cases hA <;> cases hB <;> cases hC <;> cases hD <;> simp <;> omega
        · by_cases h22 : op = 22
          · have hK' := hk (.inr (.inr h22))
            subst hK'
            simp only [h22, if_true]
            cases hA <;> cases hB <;> cases hC <;> cases hD <;> simp <;> omega
          · simp only [h20, h21, h22, if_false]
            cases hA <;> cases hB <;> cases hC <;> cases hD <;> cases hK <;> simp <;> omega
    rw [key]
    cases (within8 a 8 (hasF 0 op) && within8 b 8 (hasF 1 op) && within8 c 8 (cHas op d) && within8 d 3 (hasF 3 op) && kOk op k (hasF 4 op)) <;> rfl

/-- What an instruction that can be has not is 0. -/
theorem form_zero {i : Ins} (h : formI i = 0) : (hasF 0 i.op = false → i.a = 0) ∧ (hasF 1 i.op = false → i.b = 0) ∧ (hasF 2 i.op = false → i.c = 0) ∧ (hasF 3 i.op = false → i.d = 0) ∧ (hasF 4 i.op = false → i.k = 0) := by
  obtain ⟨p20, p21, p22⟩ := hasK_ports
  rw [← rform_is] at h
  unfold rformI at h
  split at h
  · cases h
  · split at h
    · cases h
    · split at h
      · cases h
      · rename_i h2
        simp only [rbad2, Bool.or_eq_true, Bool.and_eq_true, Bool.not_eq_true', decide_eq_true_eq, not_or, not_and, Decidable.not_not] at h2
        obtain ⟨⟨⟨⟨h1, h2⟩, h3⟩, h4⟩, h5⟩ := h2
        exact ⟨h1, h2, h3, h4, h5⟩

theorem form_op {i : Ins} (h : formI i = 0) : opB i.op = true := by
  unfold formI at h
  split at h
  · cases h
  · rename_i hq; simpa using hq

def rcheckI (i : Ins) (size : Int) (isr : Bool) : Int :=
  if formI i ≠ 0 then formI i
  else if ((isr && decide (31 ≤ i.op) && decide (i.op ≤ 37)) || (isr && (decide (i.op = 27) || decide (i.op = 28)) && decide (i.d ≠ 1)) || (!isr && decide (i.op = 38))) = true then 14
  else if (decide (17 ≤ i.op) && decide (i.op ≤ 19) && (decide (size ≤ 0) || decide (size ≤ (i.k : Int)))) = true then 5 else 0
theorem rcheck_is (i : Ins) (size : Int) (isr : Bool) : rcheckI i size isr = checkI i size isr := by
  unfold rcheckI checkI
  by_cases h : formI i = 0
  · have ho := form_op h
    simp only [opB, Bool.and_eq_true, decide_eq_true_eq] at ho
    simp only [h, ne_eq, not_true, if_false]
    have e1 : ((isr && decide (31 ≤ i.op) && decide (i.op ≤ 37)) || (isr && (decide (i.op = 27) || decide (i.op = 28)) && decide (i.d ≠ 1)) || (!isr && decide (i.op = 38))) = ((isr && !lineB i.op i.d) || (!isr && decide (i.op = 38))) := by
      refine bool_eq ?_
      unfold lineB
      cases isr <;> by_cases h27 : i.op = 27 <;> by_cases h28 : i.op = 28 <;> simp [h27, h28] <;> omega
    have e2 : (decide (17 ≤ i.op) && decide (i.op ≤ 19) && (decide (size ≤ 0) || decide (size ≤ (i.k : Int)))) = (jumpB i.op && decide (size ≤ (i.k : Int))) := by
      refine bool_eq ?_
      unfold jumpB
      simp only [Bool.and_eq_true, Bool.or_eq_true, decide_eq_true_eq]
      omega
    rw [e1, e2]
  · simp only [h, ne_eq, not_false_eq_true, if_true]

def rcostI (i : Ins) : Int :=
  if formI i ≠ 0 then 0 else if i.op = 5 then 3 else if i.op = 6 then 8 else if i.op = 7 then 8 else if i.op = 15 then 2 else if i.op = 16 then 2 else if i.op = 20 then (i.k : Int) else if i.op = 21 then 6 else if i.op = 22 then 6 else if i.op = 38 then 4 else if 26 ≤ i.op then 12 else 1
theorem rcost_is (i : Ins) : rcostI i = costI i := by
  unfold rcostI costI
  by_cases h : formI i = 0
  · obtain ⟨n, hn, n1, n2⟩ := op_nat (form_op h)
    simp only [h, ne_eq, not_true, if_false, hn, Int.toNat_natCast]
    rcases ops38 n1 n2 with rfl | rfl | rfl | rfl | rfl | rfl | rfl | rfl | rfl | rfl | rfl | rfl | rfl | rfl | rfl | rfl | rfl | rfl | rfl | rfl | rfl | rfl | rfl | rfl | rfl | rfl | rfl | rfl | rfl | rfl | rfl | rfl | rfl | rfl | rfl | rfl | rfl | rfl
    all_goals (simp [icyc, irowT, irowsT])
  · simp only [h, ne_eq, not_false_eq_true, if_true]

/-- A longer program lets at least as much stand. -/
theorem check_longer {i : Ins} {size size' : Int} {isr : Bool} (hs : size ≤ size') (h : checkI i size isr = 0) : checkI i size' isr = 0 := by
  unfold checkI at *
  split at h
  · rename_i hf; exact absurd h hf
  · rename_i hf
    rw [if_neg hf]
    split at h
    · cases h
    · rename_i h14
      rw [if_neg h14]
      split at h
      · cases h
      · rename_i h5
        rw [if_neg]
        simp only [Bool.and_eq_true, decide_eq_true_eq, not_and] at h5 ⊢
        intro hj
        have := h5 hj
        omega
/-- What may stand in a line's program may stand in a task's, but for the return. -/
theorem check_task {i : Ins} {size : Int} (hne : i.op ≠ 38) (h : checkI i size true = 0) : checkI i size false = 0 := by
  unfold checkI at *
  split at h
  · rename_i hf; exact absurd h hf
  · rename_i hf
    rw [if_neg hf]
    split at h
    · cases h
    · split at h
      · cases h
      · rename_i h5
        rw [if_neg (by simp [hne]), if_neg h5]

end Go.Proofs.YtoalgajbahlpjaaDoor
