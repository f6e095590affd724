/-
  What the code's small functions answer: is there such a task, such a level, does it stand, has it tasks. No condition.
-/
import Derived.Test.YtdcadiphebcmbaaDoorRy3
namespace Go.Proofs.YtdcadiphebcmbaaDoor
open Go Go.RowKit
set_option linter.unusedVariables false
set_option linter.unusedSimpArgs false

set_option maxRecDepth 100000 in
theorem istask_any (t : Int) (w : World) : Calls Tryd.prog 23 #[.int .i64 t] w fun e w' => e = .returned (.bool (decide (0 ≤ t) && decide (t < 64))) ∧ w = w' := by
  by_cases h : 0 ≤ t
  · have h1 : decide (0 ≤ t) = true := by simpa using h
    rw [h1]
    go_enter Tryd.func23, Tryd.ntmps23
    go_wp2_with fail
    go_ret
    exact ⟨rfl, rfl⟩
  · have h1 : decide (0 ≤ t) = false := by simpa using h
    rw [h1]
    go_enter Tryd.func23, Tryd.ntmps23
    go_wp2_with fail
    go_ret
    exact ⟨rfl, rfl⟩
set_option maxRecDepth 100000 in
theorem islevel_any (t : Int) (w : World) : Calls Tryd.prog 24 #[.int .i64 t] w fun e w' => e = .returned (.bool (decide (0 ≤ t) && decide (t < 32))) ∧ w = w' := by
  by_cases h : 0 ≤ t
  · have h1 : decide (0 ≤ t) = true := by simpa using h
    rw [h1]
    go_enter Tryd.func24, Tryd.ntmps24
    go_wp2_with fail
    go_ret
    exact ⟨rfl, rfl⟩
  · have h1 : decide (0 ≤ t) = false := by simpa using h
    rw [h1]
    go_enter Tryd.func24, Tryd.ntmps24
    go_wp2_with fail
    go_ret
    exact ⟨rfl, rfl⟩

theorem band32 (a b : Nat) (ha : a < 4294967296) (hb : b < 4294967296) : bits .and .u32 (a : Int) (b : Int) = ((a &&& b : Nat) : Int) := by
  have hx : a &&& b < 2 ^ 32 := Nat.and_lt_two_pow _ (by omega)
  have h1 : (BitVec.ofInt 32 (a : Int)).toNat = a := by
    rw [BitVec.ofInt_natCast, BitVec.toNat_ofNat]; exact Nat.mod_eq_of_lt (by omega)
  have h2 : (BitVec.ofInt 32 (b : Int)).toNat = b := by
    rw [BitVec.ofInt_natCast, BitVec.toNat_ofNat]; exact Nat.mod_eq_of_lt (by omega)
  show IntKind.u32.wrap ((BitVec.ofInt 32 (a : Int) &&& BitVec.ofInt 32 (b : Int)).toNat : Int) = _
  rw [BitVec.toNat_and, h1, h2, IntKind.wrap_u32]
  omega
theorem band64 (a b : Nat) (ha : a < 9223372036854775808) (hb : b < 9223372036854775808) : bits .and .i64 (a : Int) (b : Int) = ((a &&& b : Nat) : Int) := by
  have hx : a &&& b < 2 ^ 63 := Nat.and_lt_two_pow _ (by omega)
  have h1 : (BitVec.ofInt 64 (a : Int)).toNat = a := by
    rw [BitVec.ofInt_natCast, BitVec.toNat_ofNat]; exact Nat.mod_eq_of_lt (by omega)
  have h2 : (BitVec.ofInt 64 (b : Int)).toNat = b := by
    rw [BitVec.ofInt_natCast, BitVec.toNat_ofNat]; exact Nat.mod_eq_of_lt (by omega)
  show IntKind.i64.wrap ((BitVec.ofInt 64 (a : Int) &&& BitVec.ofInt 64 (b : Int)).toNat : Int) = _
  rw [BitVec.toNat_and, h1, h2, IntKind.wrap_i64]
  omega
theorem shr_nat (x l : Nat) : (x : Int) / 2 ^ l = ((x / 2 ^ l : Nat) : Int) := by
  rw [Int.natCast_ediv, Int.natCast_pow]; rfl
theorem bit32 (F l : Nat) (hF : F < 2 ^ 32) : (bits .and .u32 ((F : Int) / 2 ^ l) 1 == 1) = F.testBit l := by
  have h1 := Nat.div_le_self F (2 ^ l)
  rw [shr_nat, show (1 : Int) = ((1 : Nat) : Int) from rfl, band32 _ _ (by omega) (by omega), Nat.and_one_is_mod, Nat.testBit_eq_decide_div_mod_eq]
  clear h1
  generalize F / 2 ^ l % 2 = q
  exact bool_eq (by simp; omega)
theorem bit64 (S t : Nat) (hS : S < 2 ^ 64) : (bits .and .u64 ((S : Int) / 2 ^ t) 1 == 1) = S.testBit t := by
  have h1 := Nat.div_le_self S (2 ^ t)
  rw [shr_nat, show (1 : Int) = ((1 : Nat) : Int) from rfl, bits_and_u64_nat _ _ (by omega) (by omega), Nat.and_one_is_mod, Nat.testBit_eq_decide_div_mod_eq]
  clear h1
  generalize S / 2 ^ t % 2 = q
  exact bool_eq (by simp; omega)

set_option maxRecDepth 100000 in
set_option maxHeartbeats 1000000 in
theorem has_any {w : World} {b : Nat} {s : QSt} (h : QS w b s) (hf : s.F < 2 ^ 32) (l : Nat) (hl : l < 32) : Calls Tryd.prog 34 #[.pointer (some ⟨b, 0, none⟩), .int .i64 l] w fun e w' => e = .returned (.bool (s.F.testBit l)) ∧ w = w' := by
  have c1 := h.cF
  have hb := Lib.hid (bit32 s.F l hf)
  clear h
  go_enter Tryd.func34, Tryd.ntmps34
  go_wp2_with fail
  go_ret
  exact ⟨by rw [hb.out]; rfl, rfl⟩

theorem stands_nil (t : Int) (w : World) : Calls Tryd.prog 25 #[.pointer none, .int .i64 t] w fun e w' => e = .returned (.bool false) ∧ w = w' := by
  go_enter Tryd.func25, Tryd.ntmps25
  go_wp2_with fail
  go_ret
  exact ⟨rfl, rfl⟩

set_option maxRecDepth 100000 in
set_option maxHeartbeats 1000000 in
theorem stands_low {w : World} {b : Nat} {s : QSt} (h : QS w b s) (hf : s.S < 2 ^ 64) (t : Int) : Calls Tryd.prog 25 #[.pointer (some ⟨b, 0, none⟩), .int .i64 t] w fun e w' => e = .returned (.bool (decide (0 ≤ t) && decide (t < 64) && s.S.testBit t.toNat)) ∧ w = w' := by
  have c0 := h.cS
  have HT := Lib.hid (istask_any t w)
  clear h
  by_cases ht : 0 ≤ t ∧ t < 64
  · obtain ⟨n, rfl⟩ := Int.eq_ofNat_of_zero_le ht.1
    have h1 : decide (0 ≤ (n : Int)) = true := by simp
    have h2 : decide ((n : Int) < 64) = true := by simpa using ht.2
    rw [h1, h2] at HT
    rw [h1, h2, Int.toNat_natCast]
    have hn : n < 64 := by omega
    have hb := Lib.hid (bit64 s.S n hf)
    clear ht h1 h2
    go_enter Tryd.func25, Tryd.ntmps25
    go_wp2_with fail
    refine HT.out.mono ?_
    rintro e w1 ⟨rfl, rfl⟩
    go_wp2_with fail
    go_ret
    exact ⟨by rw [hb.out]; rfl, rfl⟩
  · have h1 : (decide (0 ≤ t) && decide (t < 64)) = false := by simp; omega
    rw [h1] at HT
    rw [h1]
    clear ht h1
    go_enter Tryd.func25, Tryd.ntmps25
    go_wp2_with fail
    refine HT.out.mono ?_
    rintro e w1 ⟨rfl, rfl⟩
    go_wp2_with fail
    go_ret
    exact ⟨rfl, rfl⟩

set_option maxRecDepth 100000 in
set_option maxHeartbeats 4000000 in
theorem ones_any (x : Nat) (hx : x < 18446744073709551616) (w : World) : Calls Tryd.prog 32 #[.int .u64 x] w fun e w' => e = .returned (.int .i64 (pop 64 x)) ∧ w = w' := by
  have q1 : fd2 32 x < 18446744073709551616 := fd2_lt 32 x
  have q2 : fd4 16 x < 9223372036854775808 := by have := fd4_lt 16 x; omega
  have q3 := fd8_lt x
  have k1 := step1 32 x
  have k2 := step2 16 x
  have k4 := step4 8 x
  have kz := ones_is x
  have kl := ones_lt x
  rw [mk1_32] at k1
  rw [mk2_16] at k2
  rw [mk4_8] at k4
  change (fd2 32 x / 4 &&& 3689348814741910323) + (fd2 32 x &&& 3689348814741910323) = fd4 16 x at k2
  change fd4 16 x / 16 + fd4 16 x &&& 1085102592571150095 = fd8 8 x at k4
  generalize pop 64 x = R at *
  obtain ⟨y4, e4⟩ : ∃ y, y = on1 (fd8 8 x) := ⟨_, rfl⟩
  obtain ⟨y5, e5⟩ : ∃ y, y = on2 y4 := ⟨_, rfl⟩
  obtain ⟨y6, e6⟩ : ∃ y, y = on3 y5 := ⟨_, rfl⟩
  rw [← e4, ← e5, ← e6] at kz kl
  generalize fd2 32 x = y1 at *
  generalize fd4 16 x = y2 at *
  generalize fd8 8 x = y3 at *
  have h1 : IntKind.u64.wrap (bits .and .u64 ((x : Int) / 2) 6148914691236517205 + bits .and .u64 (x : Int) 6148914691236517205) = (y1 : Int) := by
    rw [show (x : Int) / 2 = ((x / 2 : Nat) : Int) by omega, show (6148914691236517205 : Int) = ((6148914691236517205 : Nat) : Int) from rfl, bits_and_u64_nat _ _ (by omega) (by omega), bits_and_u64_nat _ _ hx (by omega), IntKind.wrap_u64]
    omega
  have h2 : IntKind.u64.wrap (bits .and .u64 ((y1 : Int) / 4) 3689348814741910323 + bits .and .u64 (y1 : Int) 3689348814741910323) = (y2 : Int) := by
    rw [show (y1 : Int) / 4 = ((y1 / 4 : Nat) : Int) by omega, show (3689348814741910323 : Int) = ((3689348814741910323 : Nat) : Int) from rfl, bits_and_u64_nat _ _ (by omega) (by omega), bits_and_u64_nat _ _ (by omega) (by omega), IntKind.wrap_u64]
    omega
  have h3 : bits .and .u64 (IntKind.u64.wrap ((y2 : Int) / 16 + (y2 : Int))) 1085102592571150095 = (y3 : Int) := by
    have : IntKind.u64.wrap ((y2 : Int) / 16 + (y2 : Int)) = ((y2 / 16 + y2 : Nat) : Int) := by rw [IntKind.wrap_u64]; omega
    rw [this, show (1085102592571150095 : Int) = ((1085102592571150095 : Nat) : Int) from rfl, bits_and_u64_nat _ _ (by omega) (by omega), k4]
  have h4 : IntKind.u64.wrap ((y3 : Int) + (y3 : Int) / 256) = (y4 : Int) := by rw [IntKind.wrap_u64, e4]; unfold on1; omega
  have h5 : IntKind.u64.wrap ((y4 : Int) + (y4 : Int) / 65536) = (y5 : Int) := by rw [IntKind.wrap_u64, e5]; unfold on2; omega
  have h6 : IntKind.u64.wrap ((y5 : Int) + (y5 : Int) / 4294967296) = (y6 : Int) := by rw [IntKind.wrap_u64, e6]; unfold on3; omega
  have h7 : IntKind.i64.wrap (y6 : Int) = (y6 : Int) := by rw [IntKind.wrap_i64]; omega
  have h8 := Lib.hid (show bits .and .i64 (y6 : Int) 127 = (R : Int) by
    rw [show (127 : Int) = ((127 : Nat) : Int) from rfl, band64 _ _ kl (by omega), Nat.and_two_pow_sub_one_eq_mod y6 7]; omega)
  clear q1 q2 q3 k1 k2 k4 kz kl e4 e5 e6
  go_enter Tryd.func32, Tryd.ntmps32
  go_wp2_with fail
  go_ret
  exact ⟨by rw [h8.out]; rfl, rfl⟩

end Go.Proofs.YtdcadiphebcmbaaDoor
