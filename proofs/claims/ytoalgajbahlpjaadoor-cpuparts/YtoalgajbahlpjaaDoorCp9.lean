/-
  The document's power and value; the statements' own bound on a context (great). Conditions: contexts in memory.
-/
import Derived.Test.YtoalgajbahlpjaaDoorCp8
import Derived.Test.YtoalgajbahlpjaaDoorCp1
namespace Go.Proofs.YtoalgajbahlpjaaDoor
open Go Go.RowKit
set_option linter.unusedVariables false
set_option linter.unusedSimpArgs false

def greatB (x : Ctx) : Bool := decide (300 < x.mem.length) || decide (x.pl < 0) || decide (1099511627776 < x.pl)
theorem greatB_no {x : Ctx} (h : greatB x = false) : x.mem.length ≤ 300 ∧ 0 ≤ x.pl ∧ x.pl ≤ 1099511627776 := by
  simp only [greatB, Bool.or_eq_false_iff, decide_eq_false_iff_not] at h
  omega

set_option maxRecDepth 100000 in
set_option maxHeartbeats 2000000 in
theorem great13_walk (p : Int) (r0 r1 r2 r3 r4 r5 r6 r7 : Nat) (ao : Option Addr) (cap n : Nat) (z : Bool) (w : World) (hn : n ≤ 9223372036854775807)
    (hz : z = (decide (300 < n) || decide (p < 0) || decide (1099511627776 < p))) :
    Calls Tryd.prog 9 #[.agg (cx10 p r0 r1 r2 r3 r4 r5 r6 r7 (.slice ao n cap))] w fun r w' => r = .returned (.bool z) ∧ Below w.heap.size w w' := by
  obtain ⟨w1, e1⟩ : ∃ w1, w1 = w.alloc (.cells (cx10 p r0 r1 r2 r3 r4 r5 r6 r7 (.slice ao n cap)) 26) := ⟨_, rfl⟩
  obtain ⟨-, n1, b1⟩ := new_size e1
  obtain ⟨D, hD⟩ : ∃ D, w.heap.size = D := ⟨_, rfl⟩
  rw [hD] at n1
  have HD := Lib.hid hD
  have B1 := Lib.hid b1
  obtain ⟨c0, c1, c2, c3, c4, c5, c6, c7, c8, c9⟩ := cells10 n1
  have HZ := Lib.hid hz
  clear n1 b1 hD hz
  unfold cx10 at *
  by_cases h1 : 300 < n
  · obtain rfl : z = true := by rw [HZ.out]; simp [h1]
    have hd : decide ((300 : Int) < (n : Int)) = true := by simp; omega
    go_enter Tryd.func9, Tryd.ntmps9
    go_upto_region 1 with fail
    rw [← e1, HD.out]
    clear e1
    go_wp2_with fail
    go_ret
    exact ⟨rfl, B1.out⟩
  have hd : decide ((300 : Int) < (n : Int)) = false := by simp; omega
  by_cases h2 : p < 0
  · obtain rfl : z = true := by rw [HZ.out]; simp [h2]
    clear h1
    go_enter Tryd.func9, Tryd.ntmps9
    go_upto_region 1 with fail
    rw [← e1, HD.out]
    clear e1
    go_wp2_with fail
    go_ret
    exact ⟨rfl, B1.out⟩
  have hd2 : decide (p < 0) = false := by simp; omega
  obtain rfl : z = decide (1099511627776 < p) := by rw [HZ.out]; simp [h1, h2]
  clear h1 h2 HZ
  go_enter Tryd.func9, Tryd.ntmps9
  go_upto_region 1 with fail
  rw [← e1, HD.out]
  clear e1
  go_wp2_with fail
  go_ret
  exact ⟨rfl, B1.out⟩

theorem great13_any (x : Ctx) (hr : x.regs.length = 8) (ao : Option Addr) (cap : Nat) (w : World) (h : SeenW w ao cap x.mem) :
    Calls Tryd.prog 9 #[cxV x (.slice ao x.mem.length cap)] w fun r w' => r = .returned (.bool (greatB x)) ∧ Below w.heap.size w w' := by
  have hmx := h.mx
  unfold maxLen at hmx
  obtain ⟨p, regs, m⟩ := x
  obtain ⟨r0, r1, r2, r3, r4, r5, r6, r7, rfl⟩ := eight hr
  exact great13_walk p r0 r1 r2 r3 r4 r5 r6 r7 ao cap m.length _ w (by omega) rfl

set_option maxRecDepth 100000 in
set_option maxHeartbeats 2000000 in
theorem rpower_any (n : Nat) (hn : n < 32) (w : World) :
    Calls Tryd.prog 25 #[.int .u32 (n : Int)] w fun e w' => e = .returned (.int .u64 ((2 ^ n : Nat) : Int)) ∧ w = w' := by
  have HN := Lib.hid hn
  go_enter Tryd.func25, Tryd.ntmps25
  go_wp2_with fail
  go_loopw [3, 4] (fun x y wr => ∃ q k : Nat, x = .int .u64 q ∧ y = .int .u32 k ∧ k ≤ n ∧ Hid (q = 2 ^ k) ∧ w = wr) (fun _ y _ => n - (intOf y).toNat)
  case atStart => exact ⟨1, 0, rfl, rfl, Nat.zero_le _, Lib.hid rfl, rfl⟩
  case round =>
    obtain ⟨q, k, rfl, rfl, hk, HQ, rfl⟩ := hrel
    by_cases hlt : k < n
    · have hq : q * 2 < 18446744073709551616 := by
        have := Nat.pow_le_pow_right (n := 2) (by decide) (show k ≤ 31 by omega)
        rw [← HQ.out] at this
        omega
      have hq2 : ((q : Int) * 2) % 18446744073709551616 = ((q * 2 : Nat) : Int) := by omega
      have hk2 : ((k : Int) + 1) % 4294967296 = ((k + 1 : Nat) : Int) := by omega
      have HL := Lib.hid hlt
      have HK := Lib.hid hk
      have hd : decide ((k : Int) < (n : Int)) = true := by simp; omega
      clear hq hk hlt
      go_wp2_with fail
      go_roundw
      case rel => exact ⟨q * 2, k + 1, rfl, rfl, HL.out, Lib.hid (by rw [HQ.out, Nat.pow_succ]), trivial⟩
      case measure => have := HL.out; simp [intOf]; omega
    · obtain rfl : k = n := by omega
      go_wp2_with fail
      go_ret
      exact ⟨by rw [HQ.out]; rfl, rfl⟩

set_option maxRecDepth 100000 in
set_option maxHeartbeats 2000000 in
theorem rvalue3 (b c : Nat) (hb : b < 4294967296) (hc : c < 4294967296) (w : World) :
    Calls Tryd.prog 20 #[.int .i64 3, .int .u32 (b : Int), .int .u32 (c : Int)] w fun e w' => e = .returned (.tuple #[.int .u32 ((valC 3 0 b c : Nat) : Int), .int .i64 0]) ∧ w = w' := by
  go_enter Tryd.func20, Tryd.ntmps20
  go_wp2_with fail
  go_ret2
  exact ⟨congrArg (fun v => Ending.returned (.tuple #[Value.int .u32 v, .int .i64 0])) (by rw [valC3]; omega), rfl⟩

set_option maxRecDepth 100000 in
set_option maxHeartbeats 2000000 in
theorem rvalue4 (b c : Nat) (hb : b < 4294967296) (hc : c < 4294967296) (w : World) :
    Calls Tryd.prog 20 #[.int .i64 4, .int .u32 (b : Int), .int .u32 (c : Int)] w fun e w' => e = .returned (.tuple #[.int .u32 ((valC 4 0 b c : Nat) : Int), .int .i64 0]) ∧ w = w' := by
  go_enter Tryd.func20, Tryd.ntmps20
  go_wp2_with fail
  go_ret2
  exact ⟨congrArg (fun v => Ending.returned (.tuple #[Value.int .u32 v, .int .i64 0])) (by rw [valC4]; omega), rfl⟩

set_option maxRecDepth 100000 in
set_option maxHeartbeats 2000000 in
theorem rvalue5 (b c : Nat) (hb : b < 4294967296) (hc : c < 4294967296) (w : World) :
    Calls Tryd.prog 20 #[.int .i64 5, .int .u32 (b : Int), .int .u32 (c : Int)] w fun e w' => e = .returned (.tuple #[.int .u32 ((valC 5 0 b c : Nat) : Int), .int .i64 0]) ∧ w = w' := by
  go_enter Tryd.func20, Tryd.ntmps20
  go_wp2_with fail
  go_ret2
  exact ⟨congrArg (fun v => Ending.returned (.tuple #[Value.int .u32 v, .int .i64 0])) (by rw [valC5, Int.natCast_emod, Int.natCast_mul]; rfl), rfl⟩

set_option maxRecDepth 100000 in
set_option maxHeartbeats 2000000 in
theorem rvalue6 (b c : Nat) (hb : b < 4294967296) (hc : c < 4294967296) (hz : ¬ c = 0) (w : World) :
    Calls Tryd.prog 20 #[.int .i64 6, .int .u32 (b : Int), .int .u32 (c : Int)] w fun e w' => e = .returned (.tuple #[.int .u32 ((valC 6 0 b c : Nat) : Int), .int .i64 0]) ∧ w = w' := by
  go_enter Tryd.func20, Tryd.ntmps20
  go_wp2_with fail
  go_ret2
  exact ⟨congrArg (fun v => Ending.returned (.tuple #[Value.int .u32 v, .int .i64 0])) (by rw [valC6, ← Int.natCast_ediv]; have h1 := Nat.div_le_self b c; generalize b / c = q at *; omega), rfl⟩

set_option maxRecDepth 100000 in
set_option maxHeartbeats 2000000 in
theorem rvalue8 (b c : Nat) (hb : b < 4294967296) (hc : c < 4294967296) (w : World) :
    Calls Tryd.prog 20 #[.int .i64 8, .int .u32 (b : Int), .int .u32 (c : Int)] w fun e w' => e = .returned (.tuple #[.int .u32 ((valC 8 0 b c : Nat) : Int), .int .i64 0]) ∧ w = w' := by
  go_enter Tryd.func20, Tryd.ntmps20
  go_wp2_with fail
  go_ret2
  exact ⟨congrArg (fun v => Ending.returned (.tuple #[Value.int .u32 v, .int .i64 0])) (u32_and_nat b c hb hc), rfl⟩

set_option maxRecDepth 100000 in
set_option maxHeartbeats 2000000 in
theorem rvalue9 (b c : Nat) (hb : b < 4294967296) (hc : c < 4294967296) (w : World) :
    Calls Tryd.prog 20 #[.int .i64 9, .int .u32 (b : Int), .int .u32 (c : Int)] w fun e w' => e = .returned (.tuple #[.int .u32 ((valC 9 0 b c : Nat) : Int), .int .i64 0]) ∧ w = w' := by
  go_enter Tryd.func20, Tryd.ntmps20
  go_wp2_with fail
  go_ret2
  exact ⟨congrArg (fun v => Ending.returned (.tuple #[Value.int .u32 v, .int .i64 0])) (u32_or_nat b c hb hc), rfl⟩

set_option maxRecDepth 100000 in
set_option maxHeartbeats 2000000 in
theorem rvalue10 (b c : Nat) (hb : b < 4294967296) (hc : c < 4294967296) (w : World) :
    Calls Tryd.prog 20 #[.int .i64 10, .int .u32 (b : Int), .int .u32 (c : Int)] w fun e w' => e = .returned (.tuple #[.int .u32 ((valC 10 0 b c : Nat) : Int), .int .i64 0]) ∧ w = w' := by
  go_enter Tryd.func20, Tryd.ntmps20
  go_wp2_with fail
  go_ret2
  exact ⟨congrArg (fun v => Ending.returned (.tuple #[Value.int .u32 v, .int .i64 0])) (u32_xor_nat b c hb hc), rfl⟩

theorem shl_is {b P : Nat} (hb : b < 4294967296) (h1 : P ≤ 2147483648) : (IntKind.u64.wrap ((b : Int) * (P : Int))).tmod 4294967296 % 4294967296 = ((b * P % 4294967296 : Nat) : Int) := by
  have h := Nat.mul_le_mul (show b ≤ 4294967295 by omega) h1
  rw [← Int.natCast_mul]
  generalize b * P = q at *
  rw [IntKind.wrap_u64, Int.tmod_eq_emod_of_nonneg (by omega)]
  omega
theorem shr_is {b P : Nat} (hb : b < 4294967296) : IntKind.u64.wrap ((b : Int) / (P : Int)) % 4294967296 = ((b / P : Nat) : Int) := by
  have h := Nat.div_le_self b P
  rw [← Int.natCast_ediv]
  generalize b / P = q at *
  rw [IntKind.wrap_u64]
  omega
theorem mod_back {b c : Nat} : b - b / c * c = b % c := by
  have := Nat.div_add_mod b c
  rw [Nat.mul_comm] at this
  omega
theorem mod_is {b c : Nat} (hb : b < 4294967296) : ((b : Int) - ((b : Int) / (c : Int) % 4294967296) * (c : Int) % 4294967296) % 4294967296 = ((b % c : Nat) : Int) := by
  have h1 := Nat.div_le_self b c
  have e1 : (b : Int) / (c : Int) % 4294967296 = ((b / c : Nat) : Int) := by
    rw [← Int.natCast_ediv]
    generalize b / c = q at *
    omega
  have h3 := Nat.div_mul_le_self b c
  rw [e1, ← Int.natCast_mul, ← mod_back]
  generalize b / c * c = q at *
  omega
set_option maxRecDepth 100000 in
set_option maxHeartbeats 2000000 in
theorem rvalue7 (b c : Nat) (hb : b < 4294967296) (hc : c < 4294967296) (hz : ¬ c = 0) (w : World) :
    Calls Tryd.prog 20 #[.int .i64 7, .int .u32 (b : Int), .int .u32 (c : Int)] w fun e w' => e = .returned (.tuple #[.int .u32 ((valC 7 0 b c : Nat) : Int), .int .i64 0]) ∧ w = w' := by
  go_enter Tryd.func20, Tryd.ntmps20
  go_wp2_with fail
  go_ret2
  exact ⟨congrArg (fun v => Ending.returned (.tuple #[Value.int .u32 v, .int .i64 0])) (by rw [valC7]; exact mod_is hb), rfl⟩


set_option maxRecDepth 100000 in
set_option maxHeartbeats 2000000 in
theorem rvalue11 (b c : Nat) (hb : b < 4294967296) (hc : c < 4294967296) (w : World) :
    Calls Tryd.prog 20 #[.int .i64 11, .int .u32 (b : Int), .int .u32 (c : Int)] w fun e w' => e = .returned (.tuple #[.int .u32 ((valC 11 0 b c : Nat) : Int), .int .i64 0]) ∧ w = w' := by
  have H := Lib.hid (fun w => rpower_any (c % 32) (Nat.mod_lt _ (by decide)) w)
  obtain ⟨q, hq⟩ : ∃ q, c % 32 = q := ⟨_, rfl⟩
  have hc2 : (c : Int) % 32 = (q : Int) := by omega
  rw [hq] at H
  obtain ⟨P, hP⟩ : ∃ P, 2 ^ q = P := ⟨_, rfl⟩
  rw [hP] at H
  have h0 : 0 < P := by rw [← hP]; exact Nat.pow_pos (by decide)
  have h1 : P ≤ 2147483648 := by rw [← hP]; exact Nat.pow_le_pow_right (n := 2) (by decide) (show q ≤ 31 by omega)
  have HQ := Lib.hid hq
  have HP := Lib.hid hP
  clear hq hP
  go_enter Tryd.func20, Tryd.ntmps20
  go_wp2_with fail
  refine (H.out _).mono ?_
  rintro e w1 ⟨rfl, rfl⟩
  go_wp2_with fail
  go_ret2
  exact ⟨congrArg (fun v => Ending.returned (.tuple #[Value.int .u32 v, .int .i64 0])) (by rw [valC11, HQ.out, HP.out]; exact shl_is hb h1), rfl⟩


set_option maxRecDepth 100000 in
set_option maxHeartbeats 2000000 in
theorem rvalue12 (b c : Nat) (hb : b < 4294967296) (hc : c < 4294967296) (w : World) :
    Calls Tryd.prog 20 #[.int .i64 12, .int .u32 (b : Int), .int .u32 (c : Int)] w fun e w' => e = .returned (.tuple #[.int .u32 ((valC 12 0 b c : Nat) : Int), .int .i64 0]) ∧ w = w' := by
  have H := Lib.hid (fun w => rpower_any (c % 32) (Nat.mod_lt _ (by decide)) w)
  obtain ⟨q, hq⟩ : ∃ q, c % 32 = q := ⟨_, rfl⟩
  have hc2 : (c : Int) % 32 = (q : Int) := by omega
  rw [hq] at H
  obtain ⟨P, hP⟩ : ∃ P, 2 ^ q = P := ⟨_, rfl⟩
  rw [hP] at H
  have h0 : 0 < P := by rw [← hP]; exact Nat.pow_pos (by decide)
  have h1 : P ≤ 2147483648 := by rw [← hP]; exact Nat.pow_le_pow_right (n := 2) (by decide) (show q ≤ 31 by omega)
  have HQ := Lib.hid hq
  have HP := Lib.hid hP
  clear hq hP
  go_enter Tryd.func20, Tryd.ntmps20
  go_wp2_with fail
  refine (H.out _).mono ?_
  rintro e w1 ⟨rfl, rfl⟩
  go_wp2_with fail
  go_ret2
  exact ⟨congrArg (fun v => Ending.returned (.tuple #[Value.int .u32 v, .int .i64 0])) (by rw [valC12, HQ.out, HP.out]; exact shr_is hb), rfl⟩


set_option maxRecDepth 100000 in
set_option maxHeartbeats 2000000 in
theorem rvalue13 (b c : Nat) (hb : b < 4294967296) (hc : c < 4294967296) (w : World) :
    Calls Tryd.prog 20 #[.int .i64 13, .int .u32 (b : Int), .int .u32 (c : Int)] w fun e w' => e = .returned (.tuple #[.int .u32 ((valC 13 0 b c : Nat) : Int), .int .i64 0]) ∧ w = w' := by
  by_cases h : b < c
  · rw [show valC 13 0 b c = 1 from if_pos h]
    have hd : decide (b < c) = true := decide_eq_true h
    clear h
    go_enter Tryd.func20, Tryd.ntmps20
    go_wp2_with fail
    go_ret2
    exact ⟨rfl, rfl⟩
  · rw [show valC 13 0 b c = 0 from if_neg h]
    have hd : decide (b < c) = false := decide_eq_false h
    clear h
    go_enter Tryd.func20, Tryd.ntmps20
    go_wp2_with fail
    go_ret2
    exact ⟨rfl, rfl⟩

set_option maxRecDepth 100000 in
set_option maxHeartbeats 2000000 in
theorem rvalue14 (b c : Nat) (hb : b < 4294967296) (hc : c < 4294967296) (w : World) :
    Calls Tryd.prog 20 #[.int .i64 14, .int .u32 (b : Int), .int .u32 (c : Int)] w fun e w' => e = .returned (.tuple #[.int .u32 ((valC 14 0 b c : Nat) : Int), .int .i64 0]) ∧ w = w' := by
  by_cases h : b = c
  · rw [show valC 14 0 b c = 1 from if_pos h]
    have hd : ((b : Int) == (c : Int)) = true := by simp [h]
    clear h
    go_enter Tryd.func20, Tryd.ntmps20
    go_wp2_with fail
    go_ret2
    exact ⟨rfl, rfl⟩
  · rw [show valC 14 0 b c = 0 from if_neg h]
    have hd : ((b : Int) == (c : Int)) = false := by simp; omega
    clear h
    go_enter Tryd.func20, Tryd.ntmps20
    go_wp2_with fail
    go_ret2
    exact ⟨rfl, rfl⟩

set_option maxRecDepth 100000 in
set_option maxHeartbeats 2000000 in
theorem rvalue_bad (op : Int) (ho : op = 6 ∨ op = 7) (b : Nat) (w : World) :
    Calls Tryd.prog 20 #[.int .i64 op, .int .u32 (b : Int), .int .u32 0] w fun e w' => e = .returned (.tuple #[.int .u32 0, .int .i64 13]) ∧ w = w' := by
  rcases ho with rfl | rfl
  all_goals
    go_enter Tryd.func20, Tryd.ntmps20
    go_wp2_with fail
    go_ret2
    exact ⟨rfl, rfl⟩

theorem rvalue_any (op : Int) (h1 : 3 ≤ op) (h2 : op ≤ 14) (b c : Nat) (hb : b < 4294967296) (hc : c < 4294967296) (hz : op = 6 ∨ op = 7 → ¬ c = 0) (w : World) :
    Calls Tryd.prog 20 #[.int .i64 op, .int .u32 (b : Int), .int .u32 (c : Int)] w fun e w' => e = .returned (.tuple #[.int .u32 ((valC op 0 b c : Nat) : Int), .int .i64 0]) ∧ w = w' := by
  have : op = 3 ∨ op = 4 ∨ op = 5 ∨ op = 6 ∨ op = 7 ∨ op = 8 ∨ op = 9 ∨ op = 10 ∨ op = 11 ∨ op = 12 ∨ op = 13 ∨ op = 14 := by omega
  rcases this with rfl | rfl | rfl | rfl | rfl | rfl | rfl | rfl | rfl | rfl | rfl | rfl
  · exact rvalue3 b c hb hc w
  · exact rvalue4 b c hb hc w
  · exact rvalue5 b c hb hc w
  · exact rvalue6 b c hb hc (hz (.inl rfl)) w
  · exact rvalue7 b c hb hc (hz (.inr rfl)) w
  · exact rvalue8 b c hb hc w
  · exact rvalue9 b c hb hc w
  · exact rvalue10 b c hb hc w
  · exact rvalue11 b c hb hc w
  · exact rvalue12 b c hb hc w
  · exact rvalue13 b c hb hc w
  · exact rvalue14 b c hb hc w
theorem valC_k {op : Int} (h : 2 ≤ op) (k b c : Nat) : valC op k b c = valC op 0 b c := by
  unfold valC
  rw [if_neg (show ¬ op = 1 by omega), if_neg (show ¬ op = 1 by omega)]

end Go.Proofs.YtoalgajbahlpjaaDoor
