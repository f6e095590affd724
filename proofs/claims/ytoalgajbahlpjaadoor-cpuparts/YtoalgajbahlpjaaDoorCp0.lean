/-
  The mathematics of cpu, over plain numbers: a context (place, registers, memory), what a plain instruction does to it, and a program that is run. No condition.
-/
import Derived.Test.YtoalgajbahlpjaaDoorIs0
namespace Go.Proofs.YtoalgajbahlpjaaDoor
open Go
set_option linter.unusedVariables false
set_option linter.unusedSimpArgs false

/-- A context. -/
structure Ctx where
  pl : Int
  regs : List Nat
  mem : List Nat

structure CtxFits (x : Ctx) : Prop where
  p1 : -9223372036854775808 ≤ x.pl
  p2 : x.pl ≤ 9223372036854775807
  rl : x.regs.length = 8
  rf : ∀ n ∈ x.regs, n < 4294967296
  mf : ∀ n ∈ x.mem, n < 4294967296

def reg (x : Ctx) (a : Int) : Nat := x.regs.getD a.toNat 0
def word (x : Ctx) (n : Nat) : Nat := x.mem.getD n 0
/-- One further on, in 64 bits with a sign. -/
def onward (p : Int) : Int := IntKind.i64.wrap (p + 1)

/-- What an instruction reckons out of two words. -/
def valC (op : Int) (k b c : Nat) : Nat :=
  if op = 1 then k else if op = 2 then b else if op = 3 then (b + c) % 4294967296 else if op = 4 then (b + 4294967296 - c) % 4294967296 else if op = 5 then b * c % 4294967296
  else if op = 6 then b / c else if op = 7 then b % c else if op = 8 then b &&& c else if op = 9 then b ||| c else if op = 10 then b ^^^ c
  else if op = 11 then b * 2 ^ (c % 32) % 4294967296 else if op = 12 then b / 2 ^ (c % 32) else if op = 13 then (if b < c then 1 else 0) else (if b = c then 1 else 0)

def plainB (i : Ins) : Bool := decide (i.op ≤ 20) && decide (formI i = 0)
def adr (x : Ctx) (i : Ins) : Nat := (reg x i.b + i.k) % 4294967296
def divB (x : Ctx) (i : Ins) : Bool := decide (reg x i.c = 0) && (decide (i.op = 6) || decide (i.op = 7))
/-- Is the jump done? -/
def leapB (x : Ctx) (i : Ins) : Bool := decide (i.op = 17) || (decide (i.op = 18) && decide (reg x i.a = 0)) || (decide (i.op = 19) && !decide (reg x i.a = 0))
def jumpC (x : Ctx) (i : Ins) : Ctx := { x with pl := if leapB x i = true then (i.k : Int) else onward x.pl }
def accE (x : Ctx) (i : Ins) : Int := if adr x i < x.mem.length then 0 else 12
def accC (x : Ctx) (i : Ins) : Ctx := if adr x i < x.mem.length then (if i.op = 15 then { x with regs := x.regs.set i.a.toNat (word x (adr x i)) } else { x with mem := x.mem.set (adr x i) (reg x i.a) }) else x
def recE (x : Ctx) (i : Ins) : Int := if divB x i = true then 13 else 0
def recC (x : Ctx) (i : Ins) : Ctx := if divB x i = true then x else { x with regs := x.regs.set i.a.toNat (valC i.op i.k (reg x i.b) (reg x i.c)) }
def accB (op : Int) : Bool := decide (op = 15) || decide (op = 16)

/-- What is wrong with it there; 0: nothing. -/
def doE (x : Ctx) (i : Ins) : Int :=
  if plainB i = false then 14 else if jumpB i.op = true then 0 else if accB i.op = true then accE x i else if i.op = 20 then 0 else recE x i
/-- The context behind it, but for the place. -/
def doM (x : Ctx) (i : Ins) : Ctx := if accB i.op = true then accC x i else if i.op = 20 then x else recC x i
def doC (x : Ctx) (i : Ins) : Ctx :=
  if plainB i = false then x else if jumpB i.op = true then jumpC x i else if doE x i = 0 then { doM x i with pl := onward x.pl } else x

theorem within_range {n : Int} {u : Bool} (h : within8 n 8 u = true) : 0 ≤ n ∧ n < 8 := by
  simp only [within8, Bool.or_eq_true, Bool.and_eq_true, decide_eq_true_eq] at h
  omega
theorem form_ok {i : Ins} (h : formI i = 0) : opB i.op = true ∧ (0 ≤ i.a ∧ i.a < 8) ∧ (0 ≤ i.b ∧ i.b < 8) ∧ (0 ≤ i.c ∧ i.c < 8) := by
  unfold formI at h
  split at h
  · cases h
  rename_i h1
  split at h
  · cases h
  rename_i h2
  simp only [Bool.not_eq_false, Bool.and_eq_true] at h1 h2
  exact ⟨h1, within_range h2.1.1, within_range h2.1.2, within_range h2.2⟩
theorem plain_ok {i : Ins} (h : plainB i = true) : 1 ≤ i.op ∧ i.op ≤ 20 ∧ (0 ≤ i.a ∧ i.a < 8) ∧ (0 ≤ i.b ∧ i.b < 8) ∧ (0 ≤ i.c ∧ i.c < 8) := by
  simp only [plainB, Bool.and_eq_true, decide_eq_true_eq] at h
  obtain ⟨h1, h2⟩ := form_ok h.2
  simp only [opB, Bool.and_eq_true, decide_eq_true_eq] at h1
  exact ⟨h1.1, h.1, h2⟩

theorem ite_lt {c : Prop} [Decidable c] {a b n : Nat} (ha : a < n) (hb : b < n) : (if c then a else b) < n := by
  by_cases h : c
  · rw [if_pos h]; exact ha
  · rw [if_neg h]; exact hb
theorem valC_lt (op : Int) {k b c : Nat} (hk : k < 4294967296) (hb : b < 4294967296) (hc : c < 4294967296) : valC op k b c < 4294967296 := by
  unfold valC
  refine ite_lt hk (ite_lt hb (ite_lt (by omega) (ite_lt (by omega) (ite_lt (Nat.mod_lt _ (by decide)) (ite_lt (Nat.lt_of_le_of_lt (Nat.div_le_self _ _) hb) (ite_lt (Nat.lt_of_le_of_lt (Nat.mod_le _ _) hb) (ite_lt (Nat.lt_of_le_of_lt Nat.and_le_left hb)
    (ite_lt (Nat.or_lt_two_pow (n := 32) hb hc) (ite_lt (Nat.xor_lt_two_pow (n := 32) hb hc) (ite_lt (Nat.mod_lt _ (by decide)) (ite_lt (Nat.lt_of_le_of_lt (Nat.div_le_self _ _) hb) (ite_lt (ite_lt (by decide) (by decide)) (ite_lt (by decide) (by decide))))))))))))))

theorem getD_fits {l : List Nat} (h : ∀ n ∈ l, n < 4294967296) (j : Nat) : l.getD j 0 < 4294967296 := by
  rw [List.getD_eq_getElem?_getD]
  cases e : l[j]? with
  | none => simp
  | some v => exact h v (List.mem_of_getElem? e)
theorem set_fits {l : List Nat} (h : ∀ n ∈ l, n < 4294967296) (j v : Nat) (hv : v < 4294967296) : ∀ n ∈ l.set j v, n < 4294967296 := by
  intro n hn
  rcases List.mem_or_eq_of_mem_set hn with h1 | h1
  · exact h n h1
  · rw [h1]; exact hv
theorem onward_fits (p : Int) : -9223372036854775808 ≤ onward p ∧ onward p ≤ 9223372036854775807 := by
  unfold onward
  rw [IntKind.wrap_i64]
  omega
theorem onward_small {p : Int} (h1 : -9223372036854775808 ≤ p) (h2 : p < 9223372036854775807) : onward p = p + 1 := by
  unfold onward
  rw [IntKind.wrap_i64]
  omega

theorem CtxFits.reg {x : Ctx} (h : CtxFits x) (a : Int) : reg x a < 4294967296 := getD_fits h.rf _
theorem CtxFits.word {x : Ctx} (h : CtxFits x) (a : Nat) : word x a < 4294967296 := getD_fits h.mf _
theorem CtxFits.pl {x : Ctx} (h : CtxFits x) {p : Int} (h1 : -9223372036854775808 ≤ p) (h2 : p ≤ 9223372036854775807) : CtxFits { x with pl := p } := ⟨h1, h2, h.rl, h.rf, h.mf⟩
theorem CtxFits.onw {x : Ctx} (h : CtxFits x) (p : Int) : CtxFits { x with pl := onward p } := h.pl (onward_fits p).1 (onward_fits p).2
theorem CtxFits.jump {x : Ctx} (h : CtxFits x) {i : Ins} (hk : i.k < 4294967296) : CtxFits (jumpC x i) := by
  unfold jumpC
  split
  · exact h.pl (by omega) (by omega)
  · exact h.onw _
theorem CtxFits.setR {x : Ctx} (h : CtxFits x) (j v : Nat) (hv : v < 4294967296) : CtxFits { x with regs := x.regs.set j v } := ⟨h.p1, h.p2, by simp [h.rl], set_fits h.rf _ _ hv, h.mf⟩
theorem CtxFits.setM {x : Ctx} (h : CtxFits x) (j v : Nat) (hv : v < 4294967296) : CtxFits { x with mem := x.mem.set j v } := ⟨h.p1, h.p2, h.rl, h.rf, set_fits h.mf _ _ hv⟩
theorem CtxFits.acc {x : Ctx} (h : CtxFits x) (i : Ins) : CtxFits (accC x i) := by
  unfold accC
  split
  · split
    · exact h.setR _ _ (h.word _)
    · exact h.setM _ _ (h.reg _)
  · exact h
theorem CtxFits.reck {x : Ctx} (h : CtxFits x) {i : Ins} (hk : i.k < 4294967296) : CtxFits (recC x i) := by
  unfold recC
  split
  · exact h
  · exact h.setR _ _ (valC_lt _ hk (h.reg _) (h.reg _))
theorem CtxFits.does {x : Ctx} (h : CtxFits x) {i : Ins} (hk : i.k < 4294967296) : CtxFits (doC x i) := by
  unfold doC
  split
  · exact h
  split
  · exact h.jump hk
  split
  · have : CtxFits (doM x i) := by
      unfold doM
      split
      · exact h.acc i
      split
      · exact h
      · exact h.reck hk
    exact this.onw _
  · exact h
theorem doM_len (x : Ctx) (i : Ins) : (doM x i).mem.length = x.mem.length := by
  unfold doM accC recC
  repeat' split
  all_goals simp
theorem doC_len (x : Ctx) (i : Ins) : (doC x i).mem.length = x.mem.length := by
  unfold doC
  repeat' split
  all_goals first | rfl | exact doM_len x i
theorem doC_bad {x : Ctx} {i : Ins} (h : doE x i ≠ 0) : doC x i = x := by
  unfold doC
  rw [if_neg h]
  split
  · rfl
  · rename_i h1
    split
    · rename_i h2
      exact absurd (by unfold doE; rw [if_neg h1, if_pos h2]) h
    · rfl

/-! ### A program -/

def runE (code : List Ins) : Nat → Ctx → Nat × Ctx × Int
  | 0, x => (0, x, 0)
  | m + 1, x =>
    if 0 ≤ x.pl ∧ x.pl < (code.length : Int) then
      if doE x (code.getD x.pl.toNat ins0) = 0 then
        let r := runE code m (doC x (code.getD x.pl.toNat ins0))
        (r.1 + 1, r.2.1, r.2.2)
      else (0, x, doE x (code.getD x.pl.toNat ins0))
    else (0, x, 0)

end Go.Proofs.YtoalgajbahlpjaaDoor
