/-
  What each call of package crc (layer 3) does, a contract for each function, over this seat's translation.
-/
import Derived.Test.YtencmjkenhnhgaaCurKit
import Derived.Test.YtencmjkenhnhgaaCrc0
import Derived.Laws.BitsAllLaws
namespace Go.Proofs.Ytencmjkenhnhgaa
open Go.RowKit
set_option linter.unusedVariables false

set_option maxRecDepth 100000 in
theorem shift_any (n : Nat) (h : n < 4294967296) (w : World) :
    Calls Try.prog 21 #[.int .u32 n] w fun e w' => e = .returned (.int .u32 (sh n : Nat)) ∧ w = w' := by
  by_cases h1 : n % 2 = 1
  · have hx := u32_xor_nat (n / 2) 3988292384 (by omega) (by decide)
    have hf := Lib.hid (show sh n = n / 2 ^^^ 3988292384 from by unfold sh; rw [if_pos h1])
    have hb : ((n : Int) % 2 == 1) = true := by rw [beq_iff_eq]; omega
    have Hx := Lib.hid hx
    clear h1 hx
    go_enter Try.func21, Try.ntmps21
    go_wp2
    go_ret
    rw [hf.out, ← Hx.out]
    exact ⟨rfl, rfl⟩
  · have hf := Lib.hid (show sh n = n / 2 from by unfold sh; rw [if_neg h1])
    have hb : ((n : Int) % 2 == 1) = false := by rw [beq_eq_false_iff_ne]; omega
    clear h1
    go_enter Try.func21, Try.ntmps21
    go_wp2
    go_ret
    rw [hf.out]
    exact ⟨rfl, rfl⟩

set_option maxRecDepth 100000 in
set_option maxHeartbeats 1000000 in
theorem times_any (a b : Nat) (ha : a < 4294967296) (hb : b < 4294967296) (w : World) :
    Calls Try.prog 22 #[.int .u32 a, .int .u32 b] w fun e w' => e = .returned (.int .u32 (mul a b : Nat)) ∧ w = w' := by
  have Ha := Lib.hid ha
  have Hb := Lib.hid hb
  clear ha hb
  go_enter Try.func22, Try.ntmps22
  go_wp2_with fail
  go_loopw [0, 1, 5] (fun x y z wr => ∃ (k m n s : Nat), x = .int .u32 m ∧ y = .int .u32 n ∧ z = .int .u32 s ∧ m < 4294967296 ∧ n < 4294967296 ∧ s < 4294967296 ∧ k ≤ 32 ∧ 2 ^ (32 - k) ∣ m ∧ s ^^^ mulF k m n = mul a b ∧ w = wr) (fun x _ _ _ => life 32 (intOf x).toNat)
  case atStart => exact ⟨32, a, b, 0, rfl, rfl, rfl, Ha.out, Hb.out, by decide, by decide, Nat.one_dvd a, by rw [Nat.zero_xor]; rfl, rfl⟩
  case round =>
    obtain ⟨k, m, n, s, rfl, rfl, rfl, hm, hn, hs, hk, hd, he, rfl⟩ := hrel
    have Hm := Lib.hid hm
    have Hn := Lib.hid hn
    have Hs := Lib.hid hs
    have Hk := Lib.hid hk
    have Hd := Lib.hid hd
    have He := Lib.hid he
    clear hn hs hk hd he
    rcases Nat.eq_zero_or_pos m with h0 | h0
    · have h0b : ((m : Int) == 0) = true := by rw [beq_iff_eq]; omega
      have Hq := Lib.hid (show mul a b = s from by rw [← He.out, h0, mulF_zero, Nat.xor_zero])
      clear h0 hm
      go_wp2_with fail
      go_ret
      rw [Hq.out]
      exact ⟨rfl, rfl⟩
    · obtain ⟨j, rfl⟩ : ∃ j, k = j + 1 := by
        rcases k with _ | k
        · exfalso
          obtain ⟨c, hc⟩ := Hd.out
          rcases c with _ | c
          · omega
          · rw [show 2 ^ (32 - 0) = 4294967296 from rfl] at hc; omega
        · exact ⟨k, rfl⟩
      have h0b : ((m : Int) == 0) = false := by rw [beq_eq_false_iff_ne]; omega
      have hlife := Lib.hid (life_less m hm (by omega))
      have Hd2 := Lib.hid (dvd_twice j m Hk.out Hd.out)
      have hsh := Lib.hid (sh_lt Hn.out)
      by_cases h1 : m / 2147483648 = 1
      · have h1b : ((m : Int) / 2147483648 == 1) = true := by rw [beq_iff_eq]; omega
        have hx := Lib.hid (u32_xor_nat s n Hs.out Hn.out)
        have hsn := Lib.hid (Nat.xor_lt_two_pow (n := 32) Hs.out Hn.out)
        have Hf := Lib.hid (show (s ^^^ n) ^^^ mulF j (2 * m % 4294967296) (sh n) = mul a b from by rw [← He.out, mulF, if_pos h1, Nat.xor_assoc])
        have H1 := Lib.hid h1
        clear h1 h0
        go_wp2_with fail
        refine (shift_any n Hn.out _).mono ?_
        rintro e w1 ⟨rfl, rfl⟩
        go_wp2
        go_roundw
        case rel => exact ⟨j, 2 * m % 4294967296, sh n, s ^^^ n, by go_num, rfl, by rw [hx.out], Nat.mod_lt _ (by decide), hsh.out, hsn.out, by have := Hk.out; omega, Hd2.out, Hf.out, trivial⟩
        case measure => have := hlife.out; simp [intOf]; rw [show ((m : Int) * 2 % 4294967296).toNat = 2 * m % 4294967296 from by omega]; exact this
      · have h1b : ((m : Int) / 2147483648 == 1) = false := by rw [beq_eq_false_iff_ne]; omega
        have Hf := Lib.hid (show s ^^^ mulF j (2 * m % 4294967296) (sh n) = mul a b from by rw [← He.out, mulF, if_neg h1, Nat.zero_xor])
        have H1 := Lib.hid h1
        clear h1 h0
        go_wp2_with fail
        refine (shift_any n Hn.out _).mono ?_
        rintro e w1 ⟨rfl, rfl⟩
        go_wp2
        go_roundw
        case rel => exact ⟨j, 2 * m % 4294967296, sh n, s, by go_num, rfl, rfl, Nat.mod_lt _ (by decide), hsh.out, Hs.out, by have := Hk.out; omega, Hd2.out, Hf.out, trivial⟩
        case measure => have := hlife.out; simp [intOf]; rw [show ((m : Int) * 2 % 4294967296).toNat = 2 * m % 4294967296 from by omega]; exact this


theorem join_odd (e k A : Nat) (h : k % 2 = 1) : shn (2 * e * (k / 2)) (shn e A) = shn (e * k) A := by
  rw [← shn_add]
  congr 1
  have : k = 2 * (k / 2) + 1 := by omega
  generalize k / 2 = q at *
  subst this
  rw [Nat.mul_add, Nat.mul_one, Nat.add_comm, Nat.mul_comm 2 e, Nat.mul_assoc]

theorem join_even (e k A : Nat) (h : ¬ k % 2 = 1) : shn (2 * e * (k / 2)) A = shn (e * k) A := by
  congr 1
  have : k = 2 * (k / 2) := by omega
  generalize k / 2 = q at *
  subst this
  rw [Nat.mul_comm 2 e, Nat.mul_assoc]

set_option maxRecDepth 100000 in
set_option maxHeartbeats 1000000 in
theorem join_any (a b : Nat) (n : Int) (ha : a < 4294967296) (hb : b < 4294967296) (hn1 : -9223372036854775808 ≤ n) (hn2 : n < 9223372036854775808) (w : World) :
    Calls Try.prog 18 #[.int .u32 a, .int .u32 b, .int .i64 n] w fun e w' => e = .returned (.int .u32 (shn (8 * n.toNat) a ^^^ b : Nat)) ∧ w = w' := by
  have Ha := Lib.hid ha
  have Hb := Lib.hid hb
  clear ha hb
  go_enter Try.func18, Try.ntmps18
  go_wp2_with fail
  go_loopw [0, 2, 7] (fun x y z wr => ∃ (m : Int) (A e P : Nat), x = .int .u32 A ∧ y = .int .i64 m ∧ z = .int .u32 P ∧ P = pow' e ∧ A < 4294967296 ∧ -9223372036854775808 ≤ m ∧ m < 9223372036854775808 ∧ shn (e * m.toNat) A = shn (8 * n.toNat) a ∧ w = wr) (fun _ x _ _ => (intOf x).toNat)
  case atStart => exact ⟨n, a, 8, 8388608, rfl, rfl, rfl, by decide, Ha.out, hn1, hn2, rfl, rfl⟩
  case round =>
    obtain ⟨m, A, e, P, rfl, rfl, rfl, hP, hA, hm1, hm2, he, rfl⟩ := hrel
    have HP := Lib.hid hP
    have HA := Lib.hid hA
    have He := Lib.hid he
    have HPl := Lib.hid (show P < 4294967296 from by rw [hP]; exact pow_lt e)
    clear hP hA he
    by_cases h0 : 0 < m
    · obtain ⟨k, rfl⟩ : ∃ k : Nat, m = (k : Int) := ⟨m.toNat, by omega⟩
      have hk0 : 0 < k := by omega
      have hk1 : k < 9223372036854775808 := by omega
      have hd0 : decide (0 < (k : Int)) = true := by simpa using hk0
      have Hk1 := Lib.hid hk1
      clear hm1 hm2 h0 hn1 hn2
      have Hq := Lib.hid (show mul P P = pow' (2 * e) from by rw [HP.out, mul_pow_pow])
      by_cases h1 : k % 2 = 1
      · have h1b : ((k : Int) % 2 == 1) = true := by rw [beq_iff_eq]; omega
        have Hr := Lib.hid (show mul A P = shn e A from by rw [HP.out, mul_pow _ _ HA.out])
        have Hj := Lib.hid (join_odd e k A h1)
        have H1 := Lib.hid h1
        clear h1
        go_wp2_with fail
        refine (times_any A P HA.out HPl.out _).mono ?_
        rintro e w1 ⟨rfl, rfl⟩
        go_wp2_with fail
        refine (times_any P P HPl.out HPl.out _).mono ?_
        rintro e w1 ⟨rfl, rfl⟩
        go_wp2
        go_roundw
        case rel => exact ⟨((k / 2 : Nat) : Int), mul A P, 2 * e, mul P P, rfl, by go_num, rfl, Hq.out, by rw [Hr.out]; exact shn_lt _ HA.out, by omega, by omega, by rw [Hr.out, Int.toNat_natCast, Hj.out, ← He.out, Int.toNat_natCast], trivial⟩
        case measure => simp [intOf]; omega
      · have h1b : ((k : Int) % 2 == 1) = false := by rw [beq_eq_false_iff_ne]; omega
        have Hj := Lib.hid (join_even e k A h1)
        have H1 := Lib.hid h1
        clear h1
        go_wp2_with fail
        refine (times_any P P HPl.out HPl.out _).mono ?_
        rintro e w1 ⟨rfl, rfl⟩
        go_wp2
        go_roundw
        case rel => exact ⟨((k / 2 : Nat) : Int), A, 2 * e, mul P P, rfl, by go_num, rfl, Hq.out, HA.out, by omega, by omega, by rw [Int.toNat_natCast, Hj.out, ← He.out, Int.toNat_natCast], trivial⟩
        case measure => simp [intOf]; omega
    · have hx := Lib.hid (u32_xor_nat A b HA.out Hb.out)
      have Hq := Lib.hid (show shn (8 * n.toNat) a = A from by rw [← He.out, show m.toNat = 0 from by omega, Nat.mul_zero]; rfl)
      go_wp2_with fail
      go_ret
      rw [Hq.out, ← hx.out]
      exact ⟨rfl, rfl⟩
end Go.Proofs.Ytencmjkenhnhgaa
