/-
  The document's own answers of layer 10 (taffrailref10): Form, where a number is out of its range, over this seat's translation. No condition.
-/
import Derived.Test.YtoalgajbahlpjaaDoorIsR1
namespace Go.Proofs.YtoalgajbahlpjaaDoor
open Go.RowKit
set_option linter.unusedVariables false
set_option linter.unusedSimpArgs false

set_option maxRecDepth 100000 in
theorem riform_not (i : Ins) (hk : opB i.op = false) (w : World) :
    Calls Tryd.prog 19 #[insV i] w fun r w' => r = .returned (.int .i64 14) ∧ Below w.heap.size w w' := by
  obtain ⟨op, a, b, c, d, k⟩ := i
  unfold insV
  simp only [opB, Bool.and_eq_false_iff, decide_eq_false_iff_not] at *
  by_cases h1 : op < 1
  · go_enter Tryd.func19, Tryd.ntmps19
    go_wp2
    go_ret
    exact ⟨rfl, below_box _⟩
  · have h1' : decide (op < 1) = false := by simp; omega
    have h2 : 38 < op := by omega
    clear hk
    go_enter Tryd.func19, Tryd.ntmps19
    go_wp2
    go_ret
    exact ⟨rfl, below_box _⟩

set_option maxRecDepth 100000 in
set_option maxHeartbeats 1000000 in
theorem riform_r0 (i : Ins) (S : ByteArray) (w : World) (ho1 : decide (i.op < 1) = false) (ho2 : decide (38 < i.op) = false)
    (HH : Hid (∀ w', Calls Tryd.prog 23 #[.int .i64 i.op] w' fun e w'' => e = .returned (.string S) ∧ w' = w''))
    (f0 : decide (i.a < 0) = true) :
    Calls Tryd.prog 19 #[insV i] w fun r w' => r = .returned (.int .i64 5) ∧ Below w.heap.size w w' := by
  obtain ⟨w1, e0⟩ : ∃ w1, w1 = w.alloc (insO i) := ⟨_, rfl⟩
  obtain ⟨-, n1, bl⟩ := new_size e0
  obtain ⟨c0, c1, c2, c3, c4, c5⟩ := inscells n1
  have B1 := Lib.hid bl
  obtain ⟨E, hE⟩ : ∃ E, w.heap.size = E := ⟨_, rfl⟩
  rw [hE] at c0 c1 c2 c3 c4 c5
  have HE := Lib.hid hE
  clear n1 bl hE
  obtain ⟨op, a, b, c, d, k⟩ := i
  unfold insO at e0
  unfold insV at *
  simp only at *
  have hk0 : (0 : Int) ≤ k := Int.natCast_nonneg _
  go_enter Tryd.func19, Tryd.ntmps19
  go_wp2_with fail
  rw [← e0, HE.out]
  clear e0
  refine (HH.out _).mono ?_
  rintro e w2 ⟨rfl, rfl⟩
  go_wp2
  go_ret
  exact ⟨rfl, B1.out⟩

set_option maxRecDepth 100000 in
set_option maxHeartbeats 1000000 in
theorem riform_r1 (i : Ins) (S : ByteArray) (w : World) (ho1 : decide (i.op < 1) = false) (ho2 : decide (38 < i.op) = false)
    (HH : Hid (∀ w', Calls Tryd.prog 23 #[.int .i64 i.op] w' fun e w'' => e = .returned (.string S) ∧ w' = w''))
    (f0 : decide (i.a < 0) = false) (f1 : decide (7 < i.a) = true) :
    Calls Tryd.prog 19 #[insV i] w fun r w' => r = .returned (.int .i64 5) ∧ Below w.heap.size w w' := by
  obtain ⟨w1, e0⟩ : ∃ w1, w1 = w.alloc (insO i) := ⟨_, rfl⟩
  obtain ⟨-, n1, bl⟩ := new_size e0
  obtain ⟨c0, c1, c2, c3, c4, c5⟩ := inscells n1
  have B1 := Lib.hid bl
  obtain ⟨E, hE⟩ : ∃ E, w.heap.size = E := ⟨_, rfl⟩
  rw [hE] at c0 c1 c2 c3 c4 c5
  have HE := Lib.hid hE
  clear n1 bl hE
  obtain ⟨op, a, b, c, d, k⟩ := i
  unfold insO at e0
  unfold insV at *
  simp only at *
  have hk0 : (0 : Int) ≤ k := Int.natCast_nonneg _
  go_enter Tryd.func19, Tryd.ntmps19
  go_wp2_with fail
  rw [← e0, HE.out]
  clear e0
  refine (HH.out _).mono ?_
  rintro e w2 ⟨rfl, rfl⟩
  go_wp2
  go_ret
  exact ⟨rfl, B1.out⟩

set_option maxRecDepth 100000 in
set_option maxHeartbeats 1000000 in
theorem riform_r2 (i : Ins) (S : ByteArray) (w : World) (ho1 : decide (i.op < 1) = false) (ho2 : decide (38 < i.op) = false)
    (HH : Hid (∀ w', Calls Tryd.prog 23 #[.int .i64 i.op] w' fun e w'' => e = .returned (.string S) ∧ w' = w''))
    (f0 : decide (i.a < 0) = false) (f1 : decide (7 < i.a) = false) (f2 : decide (i.b < 0) = true) :
    Calls Tryd.prog 19 #[insV i] w fun r w' => r = .returned (.int .i64 5) ∧ Below w.heap.size w w' := by
  obtain ⟨w1, e0⟩ : ∃ w1, w1 = w.alloc (insO i) := ⟨_, rfl⟩
  obtain ⟨-, n1, bl⟩ := new_size e0
  obtain ⟨c0, c1, c2, c3, c4, c5⟩ := inscells n1
  have B1 := Lib.hid bl
  obtain ⟨E, hE⟩ : ∃ E, w.heap.size = E := ⟨_, rfl⟩
  rw [hE] at c0 c1 c2 c3 c4 c5
  have HE := Lib.hid hE
  clear n1 bl hE
  obtain ⟨op, a, b, c, d, k⟩ := i
  unfold insO at e0
  unfold insV at *
  simp only at *
  have hk0 : (0 : Int) ≤ k := Int.natCast_nonneg _
  go_enter Tryd.func19, Tryd.ntmps19
  go_wp2_with fail
  rw [← e0, HE.out]
  clear e0
  refine (HH.out _).mono ?_
  rintro e w2 ⟨rfl, rfl⟩
  go_wp2
  go_ret
  exact ⟨rfl, B1.out⟩

set_option maxRecDepth 100000 in
set_option maxHeartbeats 1000000 in
theorem riform_r3 (i : Ins) (S : ByteArray) (w : World) (ho1 : decide (i.op < 1) = false) (ho2 : decide (38 < i.op) = false)
    (HH : Hid (∀ w', Calls Tryd.prog 23 #[.int .i64 i.op] w' fun e w'' => e = .returned (.string S) ∧ w' = w''))
    (f0 : decide (i.a < 0) = false) (f1 : decide (7 < i.a) = false) (f2 : decide (i.b < 0) = false) (f3 : decide (7 < i.b) = true) :
    Calls Tryd.prog 19 #[insV i] w fun r w' => r = .returned (.int .i64 5) ∧ Below w.heap.size w w' := by
  obtain ⟨w1, e0⟩ : ∃ w1, w1 = w.alloc (insO i) := ⟨_, rfl⟩
  obtain ⟨-, n1, bl⟩ := new_size e0
  obtain ⟨c0, c1, c2, c3, c4, c5⟩ := inscells n1
  have B1 := Lib.hid bl
  obtain ⟨E, hE⟩ : ∃ E, w.heap.size = E := ⟨_, rfl⟩
  rw [hE] at c0 c1 c2 c3 c4 c5
  have HE := Lib.hid hE
  clear n1 bl hE
  obtain ⟨op, a, b, c, d, k⟩ := i
  unfold insO at e0
  unfold insV at *
  simp only at *
  have hk0 : (0 : Int) ≤ k := Int.natCast_nonneg _
  go_enter Tryd.func19, Tryd.ntmps19
  go_wp2_with fail
  rw [← e0, HE.out]
  clear e0
  refine (HH.out _).mono ?_
  rintro e w2 ⟨rfl, rfl⟩
  go_wp2
  go_ret
  exact ⟨rfl, B1.out⟩

set_option maxRecDepth 100000 in
set_option maxHeartbeats 1000000 in
theorem riform_r4 (i : Ins) (S : ByteArray) (w : World) (ho1 : decide (i.op < 1) = false) (ho2 : decide (38 < i.op) = false)
    (HH : Hid (∀ w', Calls Tryd.prog 23 #[.int .i64 i.op] w' fun e w'' => e = .returned (.string S) ∧ w' = w''))
    (f0 : decide (i.a < 0) = false) (f1 : decide (7 < i.a) = false) (f2 : decide (i.b < 0) = false) (f3 : decide (7 < i.b) = false) (f4 : decide (i.c < 0) = true) :
    Calls Tryd.prog 19 #[insV i] w fun r w' => r = .returned (.int .i64 5) ∧ Below w.heap.size w w' := by
  obtain ⟨w1, e0⟩ : ∃ w1, w1 = w.alloc (insO i) := ⟨_, rfl⟩
  obtain ⟨-, n1, bl⟩ := new_size e0
  obtain ⟨c0, c1, c2, c3, c4, c5⟩ := inscells n1
  have B1 := Lib.hid bl
  obtain ⟨E, hE⟩ : ∃ E, w.heap.size = E := ⟨_, rfl⟩
  rw [hE] at c0 c1 c2 c3 c4 c5
  have HE := Lib.hid hE
  clear n1 bl hE
  obtain ⟨op, a, b, c, d, k⟩ := i
  unfold insO at e0
  unfold insV at *
  simp only at *
  have hk0 : (0 : Int) ≤ k := Int.natCast_nonneg _
  go_enter Tryd.func19, Tryd.ntmps19
  go_wp2_with fail
  rw [← e0, HE.out]
  clear e0
  refine (HH.out _).mono ?_
  rintro e w2 ⟨rfl, rfl⟩
  go_wp2
  go_ret
  exact ⟨rfl, B1.out⟩

set_option maxRecDepth 100000 in
set_option maxHeartbeats 1000000 in
theorem riform_r5 (i : Ins) (S : ByteArray) (w : World) (ho1 : decide (i.op < 1) = false) (ho2 : decide (38 < i.op) = false)
    (HH : Hid (∀ w', Calls Tryd.prog 23 #[.int .i64 i.op] w' fun e w'' => e = .returned (.string S) ∧ w' = w''))
    (f0 : decide (i.a < 0) = false) (f1 : decide (7 < i.a) = false) (f2 : decide (i.b < 0) = false) (f3 : decide (7 < i.b) = false) (f4 : decide (i.c < 0) = false) (f5 : decide (7 < i.c) = true) :
    Calls Tryd.prog 19 #[insV i] w fun r w' => r = .returned (.int .i64 5) ∧ Below w.heap.size w w' := by
  obtain ⟨w1, e0⟩ : ∃ w1, w1 = w.alloc (insO i) := ⟨_, rfl⟩
  obtain ⟨-, n1, bl⟩ := new_size e0
  obtain ⟨c0, c1, c2, c3, c4, c5⟩ := inscells n1
  have B1 := Lib.hid bl
  obtain ⟨E, hE⟩ : ∃ E, w.heap.size = E := ⟨_, rfl⟩
  rw [hE] at c0 c1 c2 c3 c4 c5
  have HE := Lib.hid hE
  clear n1 bl hE
  obtain ⟨op, a, b, c, d, k⟩ := i
  unfold insO at e0
  unfold insV at *
  simp only at *
  have hk0 : (0 : Int) ≤ k := Int.natCast_nonneg _
  go_enter Tryd.func19, Tryd.ntmps19
  go_wp2_with fail
  rw [← e0, HE.out]
  clear e0
  refine (HH.out _).mono ?_
  rintro e w2 ⟨rfl, rfl⟩
  go_wp2
  go_ret
  exact ⟨rfl, B1.out⟩

set_option maxRecDepth 100000 in
set_option maxHeartbeats 1000000 in
theorem riform_r6 (i : Ins) (S : ByteArray) (w : World) (ho1 : decide (i.op < 1) = false) (ho2 : decide (38 < i.op) = false)
    (HH : Hid (∀ w', Calls Tryd.prog 23 #[.int .i64 i.op] w' fun e w'' => e = .returned (.string S) ∧ w' = w''))
    (f0 : decide (i.a < 0) = false) (f1 : decide (7 < i.a) = false) (f2 : decide (i.b < 0) = false) (f3 : decide (7 < i.b) = false) (f4 : decide (i.c < 0) = false) (f5 : decide (7 < i.c) = false) (f6 : decide (i.d < 0) = true) :
    Calls Tryd.prog 19 #[insV i] w fun r w' => r = .returned (.int .i64 5) ∧ Below w.heap.size w w' := by
  obtain ⟨w1, e0⟩ : ∃ w1, w1 = w.alloc (insO i) := ⟨_, rfl⟩
  obtain ⟨-, n1, bl⟩ := new_size e0
  obtain ⟨c0, c1, c2, c3, c4, c5⟩ := inscells n1
  have B1 := Lib.hid bl
  obtain ⟨E, hE⟩ : ∃ E, w.heap.size = E := ⟨_, rfl⟩
  rw [hE] at c0 c1 c2 c3 c4 c5
  have HE := Lib.hid hE
  clear n1 bl hE
  obtain ⟨op, a, b, c, d, k⟩ := i
  unfold insO at e0
  unfold insV at *
  simp only at *
  have hk0 : (0 : Int) ≤ k := Int.natCast_nonneg _
  go_enter Tryd.func19, Tryd.ntmps19
  go_wp2_with fail
  rw [← e0, HE.out]
  clear e0
  refine (HH.out _).mono ?_
  rintro e w2 ⟨rfl, rfl⟩
  go_wp2
  go_ret
  exact ⟨rfl, B1.out⟩

set_option maxRecDepth 100000 in
set_option maxHeartbeats 1000000 in
theorem riform_r7 (i : Ins) (S : ByteArray) (w : World) (ho1 : decide (i.op < 1) = false) (ho2 : decide (38 < i.op) = false)
    (HH : Hid (∀ w', Calls Tryd.prog 23 #[.int .i64 i.op] w' fun e w'' => e = .returned (.string S) ∧ w' = w''))
    (f0 : decide (i.a < 0) = false) (f1 : decide (7 < i.a) = false) (f2 : decide (i.b < 0) = false) (f3 : decide (7 < i.b) = false) (f4 : decide (i.c < 0) = false) (f5 : decide (7 < i.c) = false) (f6 : decide (i.d < 0) = false) (f7 : decide (2 < i.d) = true) :
    Calls Tryd.prog 19 #[insV i] w fun r w' => r = .returned (.int .i64 5) ∧ Below w.heap.size w w' := by
  obtain ⟨w1, e0⟩ : ∃ w1, w1 = w.alloc (insO i) := ⟨_, rfl⟩
  obtain ⟨-, n1, bl⟩ := new_size e0
  obtain ⟨c0, c1, c2, c3, c4, c5⟩ := inscells n1
  have B1 := Lib.hid bl
  obtain ⟨E, hE⟩ : ∃ E, w.heap.size = E := ⟨_, rfl⟩
  rw [hE] at c0 c1 c2 c3 c4 c5
  have HE := Lib.hid hE
  clear n1 bl hE
  obtain ⟨op, a, b, c, d, k⟩ := i
  unfold insO at e0
  unfold insV at *
  simp only at *
  have hk0 : (0 : Int) ≤ k := Int.natCast_nonneg _
  go_enter Tryd.func19, Tryd.ntmps19
  go_wp2_with fail
  rw [← e0, HE.out]
  clear e0
  refine (HH.out _).mono ?_
  rintro e w2 ⟨rfl, rfl⟩
  go_wp2
  go_ret
  exact ⟨rfl, B1.out⟩

theorem riform_bad (i : Ins) (S : ByteArray) (w : World) (ho1 : decide (i.op < 1) = false) (ho2 : decide (38 < i.op) = false)
    (HH : Hid (∀ w', Calls Tryd.prog 23 #[.int .i64 i.op] w' fun e w'' => e = .returned (.string S) ∧ w' = w''))
    (h : rbad1 i = true) : Calls Tryd.prog 19 #[insV i] w fun r w' => r = .returned (.int .i64 5) ∧ Below w.heap.size w w' := by
  by_cases g0 : decide (i.a < 0) = true
  · exact riform_r0 i S w ho1 ho2 HH  g0
  replace g0 := Bool.not_eq_true _ ▸ g0
  by_cases g1 : decide (7 < i.a) = true
  · exact riform_r1 i S w ho1 ho2 HH g0 g1
  replace g1 := Bool.not_eq_true _ ▸ g1
  by_cases g2 : decide (i.b < 0) = true
  · exact riform_r2 i S w ho1 ho2 HH g0 g1 g2
  replace g2 := Bool.not_eq_true _ ▸ g2
  by_cases g3 : decide (7 < i.b) = true
  · exact riform_r3 i S w ho1 ho2 HH g0 g1 g2 g3
  replace g3 := Bool.not_eq_true _ ▸ g3
  by_cases g4 : decide (i.c < 0) = true
  · exact riform_r4 i S w ho1 ho2 HH g0 g1 g2 g3 g4
  replace g4 := Bool.not_eq_true _ ▸ g4
  by_cases g5 : decide (7 < i.c) = true
  · exact riform_r5 i S w ho1 ho2 HH g0 g1 g2 g3 g4 g5
  replace g5 := Bool.not_eq_true _ ▸ g5
  by_cases g6 : decide (i.d < 0) = true
  · exact riform_r6 i S w ho1 ho2 HH g0 g1 g2 g3 g4 g5 g6
  replace g6 := Bool.not_eq_true _ ▸ g6
  by_cases g7 : decide (2 < i.d) = true
  · exact riform_r7 i S w ho1 ho2 HH g0 g1 g2 g3 g4 g5 g6 g7
  replace g7 := Bool.not_eq_true _ ▸ g7
  unfold rbad1 at h
  simp only [g0, g1, g2, g3, g4, g5, g6, g7, Bool.or_false] at h
  cases h

end Go.Proofs.YtoalgajbahlpjaaDoor
