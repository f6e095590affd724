/-
  What each call of package leb (layer 2) does, a contract for each function, over this seat's translation. Conditions: a reader and a writer as in package cursor's contracts.
-/
import Derived.Test.YtoooodaodnjphaaCurKit
import Derived.Test.YtoooodaodnjphaaLeb0
import Derived.Laws.Bits64b
import Derived.Lib.Zigzag
namespace Go.Proofs.Ytoooodaodnjphaa
open Go.RowKit
set_option linter.unusedVariables false

theorem i64_not_neg (m : Nat) (hm : m < 9223372036854775808) : bits .xor .i64 (-1) (-(m : Int) - 1) = (m : Int) := by
  show IntKind.i64.wrap ((BitVec.ofInt 64 (-1) ^^^ BitVec.ofInt 64 (-(m : Int) - 1)).toNat : Int) = _
  have h1 : (BitVec.ofInt 64 (-1)).toNat = 2 ^ 64 - 1 := by decide
  have h2 : (BitVec.ofInt 64 (-(m : Int) - 1)).toNat = 2 ^ 64 - 1 - m := by
    rw [BitVec.toNat_ofInt]
    omega
  rw [BitVec.toNat_xor, h1, h2, Lib.xor_ones64 _ (by omega), IntKind.wrap_i64]
  omega

theorem or_step (v c i : Nat) (hv : v < 128 ^ i) (h : v + 128 ^ i * (c % 128) < 18446744073709551616) :
    bits .or .u64 (v : Int) (IntKind.u64.wrap ((c : Int) % 128 * 2 ^ (7 * i))) = ((v + 128 ^ i * (c % 128) : Nat) : Int) := by
  have hp : (128 : Nat) ^ i = 2 ^ (7 * i) := by rw [show (128 : Nat) = 2 ^ 7 from rfl, ← Nat.pow_mul]
  have e : (c : Int) % 128 * 2 ^ (7 * i) = ((128 ^ i * (c % 128) : Nat) : Int) := by
    rw [hp]; push_cast; rw [Int.mul_comm]
  rw [e, IntKind.wrap_u64, Int.emod_eq_of_lt (by omega) (by omega), bits_or_u64_nat _ _ (by omega) (by omega)]
  congr 1
  rw [hp] at hv ⊢
  rw [Nat.or_comm, Nat.add_comm, Nat.two_pow_add_eq_or_of_lt hv]

theorem drop_get (s : ByteArray) (k i : Nat) (h : k + i < s.size) : ∃ h' : i < (s.data.toList.drop k).length, (s.data.toList.drop k)[i] = s[k + i] := by
  have h' : i < (s.data.toList.drop k).length := by simp; omega
  refine ⟨h', ?_⟩
  rw [List.getElem_drop, Array.getElem_toList]; rfl

/-- The ways of a byte c at place i. -/
theorem byte_ways (c i : Nat) (hc : c < 256) (hi : i ≤ 9) :
    (lebBad c i = true ∧ c = 0 ∧ 0 < i) ∨ (lebBad c i = true ∧ 1 < c ∧ i = 9) ∨ (lebBad c i = false ∧ c = 0 ∧ i = 0) ∨ (lebBad c i = false ∧ c = 1) ∨
    (lebBad c i = false ∧ 1 < c ∧ i < 9 ∧ c < 128) ∨ (lebBad c i = false ∧ 1 < c ∧ i < 9 ∧ ¬ c < 128) := by
  simp only [lebBad]
  rcases (show (c = 0 ∧ 0 < i) ∨ (1 < c ∧ i = 9) ∨ (c = 0 ∧ i = 0) ∨ c = 1 ∨ (1 < c ∧ i < 9 ∧ c < 128) ∨ (1 < c ∧ i < 9 ∧ ¬ c < 128) from by omega) with h | h | h | h | h | h
  all_goals simp
  all_goals omega


end Go.Proofs.Ytoooodaodnjphaa
