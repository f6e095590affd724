/-
  What each call of package crc (layer 3) does, a contract for each function, over this seat's translation.
-/
import Derived.Test.YtobioiicbdhboaaDoorCurKit
import Derived.Test.YtobioiicbdhboaaDoorCrc0
import Derived.Laws.BitsAllLaws
namespace Go.Proofs.YtobioiicbdhboaaDoor
open Go.RowKit
set_option linter.unusedVariables false

set_option maxRecDepth 100000 in
theorem shift_any (n : Nat) (h : n < 4294967296) (w : World) :
    Calls Tryd.prog 25 #[.int .u32 n] w fun e w' => e = .returned (.int .u32 (sh n : Nat)) ∧ w = w' := by
  by_cases h1 : n % 2 = 1
  · have hx := u32_xor_nat (n / 2) 3988292384 (by omega) (by decide)
    have hf := Lib.hid (show sh n = n / 2 ^^^ 3988292384 from by unfold sh; rw [if_pos h1])
    have hb : ((n : Int) % 2 == 1) = true := by rw [beq_iff_eq]; omega
    have Hx := Lib.hid hx
    clear h1 hx
    go_enter Tryd.func25, Tryd.ntmps25
    go_wp2
    go_ret
    rw [hf.out, ← Hx.out]
    exact ⟨rfl, rfl⟩
  · have hf := Lib.hid (show sh n = n / 2 from by unfold sh; rw [if_neg h1])
    have hb : ((n : Int) % 2 == 1) = false := by rw [beq_eq_false_iff_ne]; omega
    clear h1
    go_enter Tryd.func25, Tryd.ntmps25
    go_wp2
    go_ret
    rw [hf.out]
    exact ⟨rfl, rfl⟩

theorem join_odd (e k A : Nat) (h : k % 2 = 1) : shn (2 * e * (k / 2)) (shn e A) = shn (e * k) A := by
  rw [← shn_add]
  congr 1
  have : k = 2 * (k / 2) + 1 := by omega
  generalize k / 2 = q at *
  subst this
  rw [Nat.mul_add, Nat.mul_one, Nat.add_comm, Nat.mul_comm 2 e, Nat.mul_assoc]

theorem join_even (e k A : Nat) (h : ¬ k % 2 = 1) : shn (2 * e * (k / 2)) A = shn (e * k) A := by
  congr 1
  have : k = 2 * (k / 2) := by omega
  generalize k / 2 = q at *
  subst this
  rw [Nat.mul_comm 2 e, Nat.mul_assoc]


end Go.Proofs.YtobioiicbdhboaaDoor
