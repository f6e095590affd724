/-
  What each call of package cpu (layer 13) does that reckons a word: lowest, truth, value. No condition.
-/
import Derived.Test.YtoalgajbahlpjaaDoorCpL
import Derived.Test.YtoalgajbahlpjaaDoorIs2
import Derived.Laws.BitsAllLaws
namespace Go.Proofs.YtoalgajbahlpjaaDoor
open Go Go.RowKit
set_option linter.unusedVariables false
set_option linter.unusedSimpArgs false

theorem valC3 (k b c : Nat) : valC 3 k b c = (b + c) % 4294967296 := by simp [valC]
theorem valC4 (k b c : Nat) : valC 4 k b c = (b + 4294967296 - c) % 4294967296 := by simp [valC]
theorem valC5 (k b c : Nat) : valC 5 k b c = b * c % 4294967296 := by simp [valC]
theorem valC6 (k b c : Nat) : valC 6 k b c = b / c := by simp [valC]
theorem valC7 (k b c : Nat) : valC 7 k b c = b % c := by simp [valC]
theorem valC11 (k b c : Nat) : valC 11 k b c = b * 2 ^ (c % 32) % 4294967296 := by simp [valC]
theorem valC12 (k b c : Nat) : valC 12 k b c = b / 2 ^ (c % 32) := by simp [valC]

set_option maxRecDepth 100000 in
theorem clowest_any (c : Nat) (hc : c < 4294967296) (w : World) :
    Calls Tryd.prog 30 #[.int .u32 (c : Int)] w fun e w' => e = .returned (.int .u32 ((c % 32 : Nat) : Int)) ∧ w = w' := by
  have hb : bits .and .u32 (c : Int) 31 = ((c % 32 : Nat) : Int) := by
    have := u32_and_nat c 31 hc (by decide)
    rw [show c &&& 31 = c % 32 from Nat.and_two_pow_sub_one_eq_mod c 5] at this
    exact this
  go_enter Tryd.func30, Tryd.ntmps30
  go_wp2
  go_ret
  exact ⟨rfl, rfl⟩

set_option maxRecDepth 100000 in
theorem ctruth_any (so : Bool) (w : World) :
    Calls Tryd.prog 31 #[.bool so] w fun e w' => e = .returned (.int .u32 (if so = true then 1 else 0)) ∧ w = w' := by
  cases so <;>
  · go_enter Tryd.func31, Tryd.ntmps31
    go_wp2
    go_ret
    exact ⟨rfl, rfl⟩

set_option maxRecDepth 100000 in
set_option maxHeartbeats 1000000 in
theorem cvalue1 (a1 a2 a3 a4 : Int) (k b c : Nat) (hb : b < 4294967296) (hc : c < 4294967296) (w : World) :
    Calls Tryd.prog 22 #[.agg #[.int .i64 1, .int .i64 a1, .int .i64 a2, .int .i64 a3, .int .i64 a4, .int .u32 (k : Int)], .int .u32 (b : Int), .int .u32 (c : Int)] w fun e w' => e = .returned (.int .u32 ((valC 1 k b c : Nat) : Int)) ∧ Below w.heap.size w w' := by
  go_enter Tryd.func22, Tryd.ntmps22
  go_wp2_with fail
  go_ret
  exact ⟨congrArg Ending.returned (congrArg (Value.int .u32) (rfl)), below_box _⟩

set_option maxRecDepth 100000 in
set_option maxHeartbeats 1000000 in
theorem cvalue2 (a1 a2 a3 a4 : Int) (k b c : Nat) (hb : b < 4294967296) (hc : c < 4294967296) (w : World) :
    Calls Tryd.prog 22 #[.agg #[.int .i64 2, .int .i64 a1, .int .i64 a2, .int .i64 a3, .int .i64 a4, .int .u32 (k : Int)], .int .u32 (b : Int), .int .u32 (c : Int)] w fun e w' => e = .returned (.int .u32 ((valC 2 k b c : Nat) : Int)) ∧ Below w.heap.size w w' := by
  go_enter Tryd.func22, Tryd.ntmps22
  go_wp2_with fail
  go_ret
  exact ⟨congrArg Ending.returned (congrArg (Value.int .u32) (rfl)), below_box _⟩

set_option maxRecDepth 100000 in
set_option maxHeartbeats 1000000 in
theorem cvalue3 (a1 a2 a3 a4 : Int) (k b c : Nat) (hb : b < 4294967296) (hc : c < 4294967296) (w : World) :
    Calls Tryd.prog 22 #[.agg #[.int .i64 3, .int .i64 a1, .int .i64 a2, .int .i64 a3, .int .i64 a4, .int .u32 (k : Int)], .int .u32 (b : Int), .int .u32 (c : Int)] w fun e w' => e = .returned (.int .u32 ((valC 3 k b c : Nat) : Int)) ∧ Below w.heap.size w w' := by
  go_enter Tryd.func22, Tryd.ntmps22
  go_wp2_with fail
  go_ret
  exact ⟨congrArg Ending.returned (congrArg (Value.int .u32) (by rw [valC3]; omega)), below_box _⟩

set_option maxRecDepth 100000 in
set_option maxHeartbeats 1000000 in
theorem cvalue4 (a1 a2 a3 a4 : Int) (k b c : Nat) (hb : b < 4294967296) (hc : c < 4294967296) (w : World) :
    Calls Tryd.prog 22 #[.agg #[.int .i64 4, .int .i64 a1, .int .i64 a2, .int .i64 a3, .int .i64 a4, .int .u32 (k : Int)], .int .u32 (b : Int), .int .u32 (c : Int)] w fun e w' => e = .returned (.int .u32 ((valC 4 k b c : Nat) : Int)) ∧ Below w.heap.size w w' := by
  go_enter Tryd.func22, Tryd.ntmps22
  go_wp2_with fail
  go_ret
  exact ⟨congrArg Ending.returned (congrArg (Value.int .u32) (by rw [valC4]; omega)), below_box _⟩

set_option maxRecDepth 100000 in
set_option maxHeartbeats 1000000 in
theorem cvalue5 (a1 a2 a3 a4 : Int) (k b c : Nat) (hb : b < 4294967296) (hc : c < 4294967296) (w : World) :
    Calls Tryd.prog 22 #[.agg #[.int .i64 5, .int .i64 a1, .int .i64 a2, .int .i64 a3, .int .i64 a4, .int .u32 (k : Int)], .int .u32 (b : Int), .int .u32 (c : Int)] w fun e w' => e = .returned (.int .u32 ((valC 5 k b c : Nat) : Int)) ∧ Below w.heap.size w w' := by
  go_enter Tryd.func22, Tryd.ntmps22
  go_wp2_with fail
  go_ret
  exact ⟨congrArg Ending.returned (congrArg (Value.int .u32) (by rw [valC5, Int.natCast_emod, Int.natCast_mul]; rfl)), below_box _⟩

set_option maxRecDepth 100000 in
set_option maxHeartbeats 1000000 in
theorem cvalue6 (a1 a2 a3 a4 : Int) (k b c : Nat) (hb : b < 4294967296) (hc : c < 4294967296) (hz : ¬ c = 0) (w : World) :
    Calls Tryd.prog 22 #[.agg #[.int .i64 6, .int .i64 a1, .int .i64 a2, .int .i64 a3, .int .i64 a4, .int .u32 (k : Int)], .int .u32 (b : Int), .int .u32 (c : Int)] w fun e w' => e = .returned (.int .u32 ((valC 6 k b c : Nat) : Int)) ∧ Below w.heap.size w w' := by
  go_enter Tryd.func22, Tryd.ntmps22
  go_wp2_with fail
  go_ret
  exact ⟨congrArg Ending.returned (congrArg (Value.int .u32) (by rw [valC6, ← Int.natCast_ediv]; have h1 := Nat.div_le_self b c; generalize b / c = q at *; omega)), below_box _⟩

set_option maxRecDepth 100000 in
set_option maxHeartbeats 1000000 in
theorem cvalue7 (a1 a2 a3 a4 : Int) (k b c : Nat) (hb : b < 4294967296) (hc : c < 4294967296) (hz : ¬ c = 0) (w : World) :
    Calls Tryd.prog 22 #[.agg #[.int .i64 7, .int .i64 a1, .int .i64 a2, .int .i64 a3, .int .i64 a4, .int .u32 (k : Int)], .int .u32 (b : Int), .int .u32 (c : Int)] w fun e w' => e = .returned (.int .u32 ((valC 7 k b c : Nat) : Int)) ∧ Below w.heap.size w w' := by
  go_enter Tryd.func22, Tryd.ntmps22
  go_wp2_with fail
  go_ret
  exact ⟨congrArg Ending.returned (congrArg (Value.int .u32) (by rw [valC7, ← Int.natCast_emod])), below_box _⟩

set_option maxRecDepth 100000 in
set_option maxHeartbeats 1000000 in
theorem cvalue8 (a1 a2 a3 a4 : Int) (k b c : Nat) (hb : b < 4294967296) (hc : c < 4294967296) (w : World) :
    Calls Tryd.prog 22 #[.agg #[.int .i64 8, .int .i64 a1, .int .i64 a2, .int .i64 a3, .int .i64 a4, .int .u32 (k : Int)], .int .u32 (b : Int), .int .u32 (c : Int)] w fun e w' => e = .returned (.int .u32 ((valC 8 k b c : Nat) : Int)) ∧ Below w.heap.size w w' := by
  go_enter Tryd.func22, Tryd.ntmps22
  go_wp2_with fail
  go_ret
  exact ⟨congrArg Ending.returned (congrArg (Value.int .u32) (u32_and_nat b c hb hc)), below_box _⟩

set_option maxRecDepth 100000 in
set_option maxHeartbeats 1000000 in
theorem cvalue9 (a1 a2 a3 a4 : Int) (k b c : Nat) (hb : b < 4294967296) (hc : c < 4294967296) (w : World) :
    Calls Tryd.prog 22 #[.agg #[.int .i64 9, .int .i64 a1, .int .i64 a2, .int .i64 a3, .int .i64 a4, .int .u32 (k : Int)], .int .u32 (b : Int), .int .u32 (c : Int)] w fun e w' => e = .returned (.int .u32 ((valC 9 k b c : Nat) : Int)) ∧ Below w.heap.size w w' := by
  go_enter Tryd.func22, Tryd.ntmps22
  go_wp2_with fail
  go_ret
  exact ⟨congrArg Ending.returned (congrArg (Value.int .u32) (u32_or_nat b c hb hc)), below_box _⟩

set_option maxRecDepth 100000 in
set_option maxHeartbeats 1000000 in
theorem cvalue10 (a1 a2 a3 a4 : Int) (k b c : Nat) (hb : b < 4294967296) (hc : c < 4294967296) (w : World) :
    Calls Tryd.prog 22 #[.agg #[.int .i64 10, .int .i64 a1, .int .i64 a2, .int .i64 a3, .int .i64 a4, .int .u32 (k : Int)], .int .u32 (b : Int), .int .u32 (c : Int)] w fun e w' => e = .returned (.int .u32 ((valC 10 k b c : Nat) : Int)) ∧ Below w.heap.size w w' := by
  go_enter Tryd.func22, Tryd.ntmps22
  go_wp2_with fail
  go_ret
  exact ⟨congrArg Ending.returned (congrArg (Value.int .u32) (u32_xor_nat b c hb hc)), below_box _⟩

set_option maxRecDepth 100000 in
set_option maxHeartbeats 1000000 in
theorem cvalue11 (a1 a2 a3 a4 : Int) (k b c : Nat) (hb : b < 4294967296) (hc : c < 4294967296) (w : World) :
    Calls Tryd.prog 22 #[.agg #[.int .i64 11, .int .i64 a1, .int .i64 a2, .int .i64 a3, .int .i64 a4, .int .u32 (k : Int)], .int .u32 (b : Int), .int .u32 (c : Int)] w fun e w' => e = .returned (.int .u32 ((valC 11 k b c : Nat) : Int)) ∧ Below w.heap.size w w' := by
  have H := Lib.hid (clowest_any c hc)
  obtain ⟨q, hq⟩ : ∃ q, c % 32 = q := ⟨_, rfl⟩
  rw [hq] at H
  have h32 : q < 32 := by omega
  have HQ := Lib.hid hq
  clear hq
  go_enter Tryd.func22, Tryd.ntmps22
  go_wp2_with fail
  refine (H.out _).mono ?_
  rintro e w1 ⟨rfl, rfl⟩
  go_wp2_with fail
  go_ret
  exact ⟨congrArg Ending.returned (congrArg (Value.int .u32) (by rw [valC11, HQ.out, Int.natCast_emod, Int.natCast_mul, Int.natCast_pow]; rfl)), below_box _⟩

set_option maxRecDepth 100000 in
set_option maxHeartbeats 1000000 in
theorem cvalue12 (a1 a2 a3 a4 : Int) (k b c : Nat) (hb : b < 4294967296) (hc : c < 4294967296) (w : World) :
    Calls Tryd.prog 22 #[.agg #[.int .i64 12, .int .i64 a1, .int .i64 a2, .int .i64 a3, .int .i64 a4, .int .u32 (k : Int)], .int .u32 (b : Int), .int .u32 (c : Int)] w fun e w' => e = .returned (.int .u32 ((valC 12 k b c : Nat) : Int)) ∧ Below w.heap.size w w' := by
  have H := Lib.hid (clowest_any c hc)
  obtain ⟨q, hq⟩ : ∃ q, c % 32 = q := ⟨_, rfl⟩
  rw [hq] at H
  have h32 : q < 32 := by omega
  have HQ := Lib.hid hq
  clear hq
  go_enter Tryd.func22, Tryd.ntmps22
  go_wp2_with fail
  refine (H.out _).mono ?_
  rintro e w1 ⟨rfl, rfl⟩
  go_wp2_with fail
  go_ret
  exact ⟨congrArg Ending.returned (congrArg (Value.int .u32) (by rw [valC12, HQ.out, Int.natCast_ediv, Int.natCast_pow]; rfl)), below_box _⟩

set_option maxRecDepth 100000 in
set_option maxHeartbeats 1000000 in
theorem cvalue13 (a1 a2 a3 a4 : Int) (k b c : Nat) (hb : b < 4294967296) (hc : c < 4294967296) (w : World) :
    Calls Tryd.prog 22 #[.agg #[.int .i64 13, .int .i64 a1, .int .i64 a2, .int .i64 a3, .int .i64 a4, .int .u32 (k : Int)], .int .u32 (b : Int), .int .u32 (c : Int)] w fun e w' => e = .returned (.int .u32 ((valC 13 k b c : Nat) : Int)) ∧ Below w.heap.size w w' := by
  by_cases h : b < c
  · rw [show valC 13 k b c = 1 from if_pos h]
    have HT := Lib.hid (ctruth_any true)
    have hd : decide (b < c) = true := decide_eq_true h
    clear h
    go_enter Tryd.func22, Tryd.ntmps22
    go_wp2_with fail
    refine (HT.out _).mono ?_
    rintro e w1 ⟨rfl, rfl⟩
    go_wp2_with fail
    go_ret
    exact ⟨rfl, below_box _⟩
  · rw [show valC 13 k b c = 0 from if_neg h]
    have HT := Lib.hid (ctruth_any false)
    have hd : decide (b < c) = false := decide_eq_false h
    clear h
    go_enter Tryd.func22, Tryd.ntmps22
    go_wp2_with fail
    refine (HT.out _).mono ?_
    rintro e w1 ⟨rfl, rfl⟩
    go_wp2_with fail
    go_ret
    exact ⟨rfl, below_box _⟩

set_option maxRecDepth 100000 in
set_option maxHeartbeats 1000000 in
theorem cvalue14 (a1 a2 a3 a4 : Int) (k b c : Nat) (hb : b < 4294967296) (hc : c < 4294967296) (w : World) :
    Calls Tryd.prog 22 #[.agg #[.int .i64 14, .int .i64 a1, .int .i64 a2, .int .i64 a3, .int .i64 a4, .int .u32 (k : Int)], .int .u32 (b : Int), .int .u32 (c : Int)] w fun e w' => e = .returned (.int .u32 ((valC 14 k b c : Nat) : Int)) ∧ Below w.heap.size w w' := by
  by_cases h : b = c
  · rw [show valC 14 k b c = 1 from if_pos h]
    have HT := Lib.hid (ctruth_any true)
    have hd : ((b : Int) == (c : Int)) = true := by simp [h]
    clear h
    go_enter Tryd.func22, Tryd.ntmps22
    go_wp2_with fail
    refine (HT.out _).mono ?_
    rintro e w1 ⟨rfl, rfl⟩
    go_wp2_with fail
    go_ret
    exact ⟨rfl, below_box _⟩
  · rw [show valC 14 k b c = 0 from if_neg h]
    have HT := Lib.hid (ctruth_any false)
    have hd : ((b : Int) == (c : Int)) = false := by simp; omega
    clear h
    go_enter Tryd.func22, Tryd.ntmps22
    go_wp2_with fail
    refine (HT.out _).mono ?_
    rintro e w1 ⟨rfl, rfl⟩
    go_wp2_with fail
    go_ret
    exact ⟨rfl, below_box _⟩

/-- value, for every instruction that reckons a word. -/
theorem cvalue_any (i : Ins) (h1 : 1 ≤ i.op) (h2 : i.op ≤ 14) (b c : Nat) (hb : b < 4294967296) (hc : c < 4294967296) (hz : i.op = 6 ∨ i.op = 7 → ¬ c = 0) (w : World) :
    Calls Tryd.prog 22 #[insV i, .int .u32 (b : Int), .int .u32 (c : Int)] w fun e w' => e = .returned (.int .u32 ((valC i.op i.k b c : Nat) : Int)) ∧ Below w.heap.size w w' := by
  obtain ⟨op, a1, a2, a3, a4, k⟩ := i
  simp only at *
  have : op = 1 ∨ op = 2 ∨ op = 3 ∨ op = 4 ∨ op = 5 ∨ op = 6 ∨ op = 7 ∨ op = 8 ∨ op = 9 ∨ op = 10 ∨ op = 11 ∨ op = 12 ∨ op = 13 ∨ op = 14 := by omega
  rcases this with rfl | rfl | rfl | rfl | rfl | rfl | rfl | rfl | rfl | rfl | rfl | rfl | rfl | rfl
  · exact cvalue1 a1 a2 a3 a4 k b c hb hc w
  · exact cvalue2 a1 a2 a3 a4 k b c hb hc w
  · exact cvalue3 a1 a2 a3 a4 k b c hb hc w
  · exact cvalue4 a1 a2 a3 a4 k b c hb hc w
  · exact cvalue5 a1 a2 a3 a4 k b c hb hc w
  · exact cvalue6 a1 a2 a3 a4 k b c hb hc (hz (.inl rfl)) w
  · exact cvalue7 a1 a2 a3 a4 k b c hb hc (hz (.inr rfl)) w
  · exact cvalue8 a1 a2 a3 a4 k b c hb hc w
  · exact cvalue9 a1 a2 a3 a4 k b c hb hc w
  · exact cvalue10 a1 a2 a3 a4 k b c hb hc w
  · exact cvalue11 a1 a2 a3 a4 k b c hb hc w
  · exact cvalue12 a1 a2 a3 a4 k b c hb hc w
  · exact cvalue13 a1 a2 a3 a4 k b c hb hc w
  · exact cvalue14 a1 a2 a3 a4 k b c hb hc w

end Go.Proofs.YtoalgajbahlpjaaDoor
