/-
  What each call of package event (layer 5) that makes no memory does, a contract for each function, over this seat's translation. Conditions: the table's cells (EvL).
-/
import Derived.Test.YtobioiicbdhboaaDoorEvL
import Derived.BigQuiet
import Derived.WalkKit
import Derived.Deep.Light
import Derived.Deep.RegionWith
namespace Go.Proofs.YtobioiicbdhboaaDoor
open Go.RowKit
set_option linter.unusedVariables false
set_option linter.unusedSimpArgs false

theorem bool_eq {a b : Bool} (h : a = true ↔ b = true) : a = b := Bool.eq_iff_iff.2 h

set_option maxRecDepth 100000 in
theorem known_any (k : Int) (w : World) :
    Calls Tryd.prog 81 #[.int .i64 k] w fun e w' => e = .returned (.bool (knownB k)) ∧ w = w' := by
  by_cases h1 : 1 ≤ k
  · have e : knownB k = decide (k ≤ 24) := by simp [knownB, h1]
    rw [e]
    clear e
    go_enter Tryd.func81, Tryd.ntmps81
    go_wp2
    go_ret
    exact ⟨rfl, rfl⟩
  · have e : knownB k = false := by simp [knownB, h1]
    rw [e]
    clear e
    go_enter Tryd.func81, Tryd.ntmps81
    go_wp2
    go_ret
    exact ⟨rfl, rfl⟩

set_option maxRecDepth 100000 in
set_option maxHeartbeats 1000000 in
theorem emost_any (s : Int) (w : World) :
    Calls Tryd.prog 85 #[.int .i64 s] w fun e w' => e = .returned (.int .u32 (mostN s : Nat)) ∧ w = w' := by
  go_enter Tryd.func85, Tryd.ntmps85
  go_wp2
  all_goals (go_ret; refine ⟨?_, rfl⟩; go_light; simp only [beq_iff_eq, beq_eq_false_iff_ne, ne_eq] at *; simp [mostN, *])

set_option maxRecDepth 100000 in
set_option maxHeartbeats 1000000 in
theorem within_any (s : Int) (n : Nat) (w : World) :
    Calls Tryd.prog 83 #[.int .i64 s, .int .u32 n] w fun e w' => e = .returned (.bool (withinB s n)) ∧ w = w' := by
  have H := Lib.hid (emost_any s w)
  have hn : (0 : Int) ≤ n := Int.natCast_nonneg _
  by_cases h1 : s = 1
  · subst h1
    rw [show withinB 1 n = true from rfl]
    go_enter Tryd.func83, Tryd.ntmps83
    go_wp2
    go_ret
    exact ⟨rfl, rfl⟩
  by_cases h5 : s = 5
  · subst h5
    rw [show withinB 5 n = (decide (n < 64) || decide (n = 255)) from rfl]
    by_cases hl : n < 64
    · have hl' : (n : Int) < 64 := by omega
      go_enter Tryd.func83, Tryd.ntmps83
      go_wp2
      go_ret
      exact ⟨congrArg (fun x => Ending.returned (Value.bool x)) (bool_eq (by simp <;> omega)), rfl⟩
    · have hl' : ¬ (n : Int) < 64 := by omega
      go_enter Tryd.func83, Tryd.ntmps83
      go_wp2
      go_ret
      exact ⟨congrArg (fun x => Ending.returned (Value.bool x)) (bool_eq (by simp <;> omega)), rfl⟩
  by_cases h10 : s = 10
  · subst h10
    rw [show withinB 10 n = (decide (n = 0) || (decide (32 ≤ n) && decide (n < 160))) from rfl]
    by_cases hz : n = 0
    · subst hz
      go_enter Tryd.func83, Tryd.ntmps83
      go_wp2
      go_ret
      exact ⟨congrArg (fun x => Ending.returned (Value.bool x)) (bool_eq (by simp)), rfl⟩
    · have hz' : ((n : Int) == 0) = false := by simp; omega
      by_cases hl : 32 ≤ n
      · have hl' : 32 ≤ (n : Int) := by omega
        go_enter Tryd.func83, Tryd.ntmps83
        go_wp2
        go_ret
        exact ⟨congrArg (fun x => Ending.returned (Value.bool x)) (bool_eq (by simp <;> omega)), rfl⟩
      · have hl' : ¬ 32 ≤ (n : Int) := by omega
        go_enter Tryd.func83, Tryd.ntmps83
        go_wp2
        go_ret
        exact ⟨congrArg (fun x => Ending.returned (Value.bool x)) (bool_eq (by simp <;> omega)), rfl⟩
  by_cases h11 : s = 11
  · subst h11
    rw [show withinB 11 n = (decide (1 ≤ n) && decide (n ≤ 255)) from rfl]
    by_cases hl : 1 ≤ n
    · have hl' : 1 ≤ (n : Int) := by omega
      go_enter Tryd.func83, Tryd.ntmps83
      go_wp2
      go_ret
      exact ⟨congrArg (fun x => Ending.returned (Value.bool x)) (bool_eq (by simp <;> omega)), rfl⟩
    · have hl' : ¬ 1 ≤ (n : Int) := by omega
      go_enter Tryd.func83, Tryd.ntmps83
      go_wp2
      go_ret
      exact ⟨congrArg (fun x => Ending.returned (Value.bool x)) (bool_eq (by simp <;> omega)), rfl⟩
  have e : withinB s n = decide (n ≤ mostN s) := by simp [withinB, h1, h5, h10, h11]
  rw [e]
  have b1 : (s == 1) = false := by simp [h1]
  have b5 : (s == 5) = false := by simp [h5]
  have b10 : (s == 10) = false := by simp [h10]
  have b11 : (s == 11) = false := by simp [h11]
  clear e h1 h5 h10 h11
  go_enter Tryd.func83, Tryd.ntmps83
  go_wp2_with fail
  refine H.out.mono ?_
  rintro e w1 ⟨rfl, rfl⟩
  go_wp2
  go_ret
  exact ⟨congrArg (fun x => Ending.returned (Value.bool x)) (bool_eq (by simp <;> omega)), rfl⟩

/-- A kind that there is, as a place of the table. -/
theorem known_nat {k : Int} (h : knownB k = true) : ∃ n : Nat, k = n ∧ 1 ≤ n ∧ n ≤ 24 := by
  simp only [knownB, Bool.and_eq_true, decide_eq_true_eq] at h
  exact ⟨k.toNat, by omega, by omega, by omega⟩

set_option maxRecDepth 100000 in
set_option maxHeartbeats 1000000 in
theorem name_any (k : Int) (w : World) (hL : EvL w) :
    Calls Tryd.prog 75 #[.int .i64 k] w fun e w' => e = .returned (.string (if knownB k = true then nameB k.toNat else ⟨#[]⟩)) ∧ w = w' := by
  have H := Lib.hid (known_any k w)
  cases hk : knownB k with
  | false =>
    rw [hk] at H
    clear hL
    go_enter Tryd.func75, Tryd.ntmps75
    go_wp2_with fail
    refine H.out.mono ?_
    rintro e w1 ⟨rfl, rfl⟩
    go_wp2
    go_ret
    exact ⟨rfl, rfl⟩
  | true =>
    rw [hk] at H
    obtain ⟨n, rfl, n1, n2⟩ := known_nat hk
    obtain ⟨c0, c1, c2, c3⟩ := hL.row n (by omega)
    have hlt : (n : Int) < 25 := by omega
    have h0 : (0 : Int) ≤ n := Int.natCast_nonneg _
    clear hL hk c1 c2 c3
    go_enter Tryd.func75, Tryd.ntmps75
    go_wp2_with fail
    refine H.out.mono ?_
    rintro e w1 ⟨rfl, rfl⟩
    go_wp2
    go_ret
    exact ⟨rfl, rfl⟩

theorem drew0 (w : World) : ∃ n, w = w.drewN n := ⟨0, by simp [World.drewN_zero]⟩

set_option maxRecDepth 100000 in
set_option maxHeartbeats 1000000 in
theorem fields_any (k : Int) (w : World) (hL : EvL w) :
    Calls Tryd.prog 78 #[.int .i64 k] w fun e w' => e = .returned (.tuple #[.bool (hasA k), .bool (hasB k), .bool (hasV k)]) ∧ ∃ n, w' = w.drewN n := by
  have H := Lib.hid (known_any k w)
  cases hk : knownB k with
  | false =>
    rw [hk] at H
    rw [show hasA k = false by simp [hasA, hk], show hasB k = false by simp [hasB, hk], show hasV k = false by simp [hasV, hk]]
    clear hL
    go_enter Tryd.func78, Tryd.ntmps78
    go_wp2_with fail
    refine H.out.mono ?_
    rintro e w1 ⟨rfl, rfl⟩
    go_wp2
    go_ret3
    exact ⟨rfl, drew0 _⟩
  | true =>
    rw [hk] at H
    obtain ⟨n, rfl, n1, n2⟩ := known_nat hk
    obtain ⟨c0, c1, c2, c3⟩ := hL.row n (by omega)
    have hlt : (n : Int) < 25 := by omega
    have h0 : (0 : Int) ≤ n := Int.natCast_nonneg _
    have eA : hasA (n : Int) = !(spanA n == 0) := by simp [hasA, hk]; rfl
    have eB : hasB (n : Int) = !(spanB n == 0) := by simp [hasB, hk]; rfl
    have eV : hasV (n : Int) = !(spanV n == 0) := by simp [hasV, hk]; rfl
    rw [eA, eB, eV]
    clear hL hk c0 eA eB eV
    generalize spanA n = sa at *
    generalize spanB n = sb at *
    generalize spanV n = sv at *
    go_enter Tryd.func78, Tryd.ntmps78
    go_wp2_with fail
    refine H.out.mono ?_
    rintro e w1 ⟨rfl, rfl⟩
    go_wp2_with fail
    go_quiet (fail)
    go_wp2
    go_ret3
    exact ⟨rfl, _, rfl⟩

/-- An event, as a value. -/
def evV (e : Ev) : Value := .agg #[.int .i64 e.kind, .int .u64 (e.cyc : Int), .int .u64 (e.cnt : Int), .int .u32 (e.a : Int), .int .u32 (e.b : Int), .int .u32 (e.v : Int)]

set_option maxRecDepth 100000 in
set_option maxHeartbeats 1000000 in
theorem check_not (e : Ev) (hk : knownB e.kind = false) (w : World) :
    Calls Tryd.prog 80 #[evV e] w fun r w' => r = .returned (.int .i64 1) ∧ Below w.heap.size w w' := by
  obtain ⟨k, cyc, cnt, a, b, v⟩ := e
  have H := Lib.hid (fun w => known_any k w)
  simp only at hk
  rw [hk] at H
  clear hk
  have b0 := Lib.hid (Below.refl w.heap.size w)
  unfold evV
  go_enter Tryd.func80, Tryd.ntmps80
  go_wp2_with fail
  refine (H.out _).mono ?_
  rintro e w1 ⟨rfl, rfl⟩
  go_wp2
  go_ret
  exact ⟨rfl, b0.out.alloc (Nat.le_refl _) _⟩

theorem within_same (s : Int) (n : Nat) (w : World) :
    Calls Tryd.prog 83 #[.int .i64 s, .int .u32 n] w fun e w' => e = .returned (.bool (withinB s n)) ∧ w' = w :=
  (within_any s n w).mono fun e w' h => ⟨h.1, h.2.symm⟩
theorem below_drewN {w0 w : World} {B : Nat} (h : Below B w0 w) (n : Nat) : Below B w0 (w.drewN n) := ⟨h.os, h.tape, h.output, h.size, h.block⟩

/-- An event in a block of its own. -/
def evO (e : Ev) : Obj := .cells #[.int .i64 e.kind, .int .u64 (e.cyc : Int), .int .u64 (e.cnt : Int), .int .u32 (e.a : Int), .int .u32 (e.b : Int), .int .u32 (e.v : Int)] 69
theorem evO_at {w w1 : World} {e : Ev} (h : w1 = w.alloc (evO e)) :
    w1.cell? ⟨w.heap.size, 0, none⟩ = some (.int .i64 e.kind) ∧ w1.cell? ⟨w.heap.size, 1, none⟩ = some (.int .u64 (e.cyc : Int)) ∧ w1.cell? ⟨w.heap.size, 2, none⟩ = some (.int .u64 (e.cnt : Int)) ∧
    w1.cell? ⟨w.heap.size, 3, none⟩ = some (.int .u32 (e.a : Int)) ∧ w1.cell? ⟨w.heap.size, 4, none⟩ = some (.int .u32 (e.b : Int)) ∧ w1.cell? ⟨w.heap.size, 5, none⟩ = some (.int .u32 (e.v : Int)) ∧ Below w.heap.size w w1 := by
  subst h
  refine ⟨?_, ?_, ?_, ?_, ?_, ?_, (Below.refl _ w).alloc (Nat.le_refl _) _⟩ <;> simp [evO]

set_option maxRecDepth 100000 in
set_option maxHeartbeats 2000000 in
theorem check_a (n cyc cnt a b v : Nat) (n1 : 1 ≤ n) (n2 : n ≤ 24) (w : World) (hL : EvL w) (hA : withinB (spanA n) a = false) :
    Calls Tryd.prog 80 #[evV ⟨n, cyc, cnt, a, b, v⟩] w fun r w' => r = .returned (.int .i64 5) ∧ Below w.heap.size w w' := by
  have H := Lib.hid (fun w => known_any (n : Int) w)
  rw [show knownB (n : Int) = true by simp [knownB]; omega] at H
  have HA := Lib.hid (fun w => within_same (spanA n) a w)
  have HB := Lib.hid (fun w => within_same (spanB n) b w)
  have HV := Lib.hid (fun w => within_same (spanV n) v w)
  rw [hA] at HA
  clear hA
  have hlt : (n : Int) < 25 := by omega
  have h0 : (0 : Int) ≤ n := Int.natCast_nonneg _
  unfold evV
  go_enter Tryd.func80, Tryd.ntmps80
  go_wp2_with fail
  obtain ⟨w1, hw1⟩ : ∃ w1, w1 = w.alloc (evO ⟨n, cyc, cnt, a, b, v⟩) := ⟨_, rfl⟩
  have hw1' := hw1
  unfold evO at hw1'
  rw [← hw1']
  obtain ⟨k0, k1, k2, k3, k4, k5, bl⟩ := evO_at hw1
  obtain ⟨c0, c1, c2, c3⟩ := (hL.below bl).row n (by omega)
  have b0 := Lib.hid bl
  simp only at k0 k1 k2 k3 k4 k5
  clear hw1 hw1' bl hL c0
  generalize spanA n = sa at *
  generalize spanB n = sb at *
  generalize spanV n = sv at *
  refine (H.out _).mono ?_
  rintro e w1 ⟨rfl, rfl⟩
  go_wp2_with fail
  go_quiet (first | (go_at_call_of 83 (Value.int .i64 sa); refine Calls.quiet_of_same (HA.out _)))
  go_wp2
  go_ret
  exact ⟨rfl, below_drewN b0.out _⟩

set_option maxRecDepth 100000 in
set_option maxHeartbeats 2000000 in
theorem check_b (n cyc cnt a b v : Nat) (n1 : 1 ≤ n) (n2 : n ≤ 24) (w : World) (hL : EvL w) (hA : withinB (spanA n) a = true) (hB : withinB (spanB n) b = false) :
    Calls Tryd.prog 80 #[evV ⟨n, cyc, cnt, a, b, v⟩] w fun r w' => r = .returned (.int .i64 5) ∧ Below w.heap.size w w' := by
  have H := Lib.hid (fun w => known_any (n : Int) w)
  rw [show knownB (n : Int) = true by simp [knownB]; omega] at H
  have HA := Lib.hid (fun w => within_same (spanA n) a w)
  have HB := Lib.hid (fun w => within_same (spanB n) b w)
  have HV := Lib.hid (fun w => within_same (spanV n) v w)
  rw [hA] at HA
  rw [hB] at HB
  clear hA hB
  have hlt : (n : Int) < 25 := by omega
  have h0 : (0 : Int) ≤ n := Int.natCast_nonneg _
  unfold evV
  go_enter Tryd.func80, Tryd.ntmps80
  go_wp2_with fail
  obtain ⟨w1, hw1⟩ : ∃ w1, w1 = w.alloc (evO ⟨n, cyc, cnt, a, b, v⟩) := ⟨_, rfl⟩
  have hw1' := hw1
  unfold evO at hw1'
  rw [← hw1']
  obtain ⟨k0, k1, k2, k3, k4, k5, bl⟩ := evO_at hw1
  obtain ⟨c0, c1, c2, c3⟩ := (hL.below bl).row n (by omega)
  have b0 := Lib.hid bl
  simp only at k0 k1 k2 k3 k4 k5
  clear hw1 hw1' bl hL c0
  generalize spanA n = sa at *
  generalize spanB n = sb at *
  generalize spanV n = sv at *
  refine (H.out _).mono ?_
  rintro e w1 ⟨rfl, rfl⟩
  go_wp2_with fail
  go_quiet (first | (go_at_call_of 83 (Value.int .i64 sa); refine Calls.quiet_of_same (HA.out _)) | (go_at_call_of 83 (Value.int .i64 sb); refine Calls.quiet_of_same (HB.out _)))
  go_wp2
  go_ret
  exact ⟨rfl, below_drewN b0.out _⟩

set_option maxRecDepth 100000 in
set_option maxHeartbeats 2000000 in
theorem check_v (n cyc cnt a b v : Nat) (n1 : 1 ≤ n) (n2 : n ≤ 24) (w : World) (hL : EvL w) (hA : withinB (spanA n) a = true) (hB : withinB (spanB n) b = true) (hV : withinB (spanV n) v = false) :
    Calls Tryd.prog 80 #[evV ⟨n, cyc, cnt, a, b, v⟩] w fun r w' => r = .returned (.int .i64 5) ∧ Below w.heap.size w w' := by
  have H := Lib.hid (fun w => known_any (n : Int) w)
  rw [show knownB (n : Int) = true by simp [knownB]; omega] at H
  have HA := Lib.hid (fun w => within_same (spanA n) a w)
  have HB := Lib.hid (fun w => within_same (spanB n) b w)
  have HV := Lib.hid (fun w => within_same (spanV n) v w)
  rw [hA] at HA
  rw [hB] at HB
  rw [hV] at HV
  clear hA hB hV
  have hlt : (n : Int) < 25 := by omega
  have h0 : (0 : Int) ≤ n := Int.natCast_nonneg _
  unfold evV
  go_enter Tryd.func80, Tryd.ntmps80
  go_wp2_with fail
  obtain ⟨w1, hw1⟩ : ∃ w1, w1 = w.alloc (evO ⟨n, cyc, cnt, a, b, v⟩) := ⟨_, rfl⟩
  have hw1' := hw1
  unfold evO at hw1'
  rw [← hw1']
  obtain ⟨k0, k1, k2, k3, k4, k5, bl⟩ := evO_at hw1
  obtain ⟨c0, c1, c2, c3⟩ := (hL.below bl).row n (by omega)
  have b0 := Lib.hid bl
  simp only at k0 k1 k2 k3 k4 k5
  clear hw1 hw1' bl hL c0
  generalize spanA n = sa at *
  generalize spanB n = sb at *
  generalize spanV n = sv at *
  refine (H.out _).mono ?_
  rintro e w1 ⟨rfl, rfl⟩
  go_wp2_with fail
  go_quiet (first | (go_at_call_of 83 (Value.int .i64 sa); refine Calls.quiet_of_same (HA.out _)) | (go_at_call_of 83 (Value.int .i64 sb); refine Calls.quiet_of_same (HB.out _)) | (go_at_call_of 83 (Value.int .i64 sv); refine Calls.quiet_of_same (HV.out _)))
  go_wp2
  go_ret
  exact ⟨rfl, below_drewN b0.out _⟩

set_option maxRecDepth 100000 in
set_option maxHeartbeats 2000000 in
theorem check_n (n cyc cnt a b v : Nat) (n1 : 1 ≤ n) (n2 : n ≤ 24) (w : World) (hL : EvL w) (hA : withinB (spanA n) a = true) (hB : withinB (spanB n) b = true) (hV : withinB (spanV n) v = true) (h5 : n ≠ 5) :
    Calls Tryd.prog 80 #[evV ⟨n, cyc, cnt, a, b, v⟩] w fun r w' => r = .returned (.int .i64 0) ∧ Below w.heap.size w w' := by
  have H := Lib.hid (fun w => known_any (n : Int) w)
  rw [show knownB (n : Int) = true by simp [knownB]; omega] at H
  have HA := Lib.hid (fun w => within_same (spanA n) a w)
  have HB := Lib.hid (fun w => within_same (spanB n) b w)
  have HV := Lib.hid (fun w => within_same (spanV n) v w)
  rw [hA] at HA
  rw [hB] at HB
  rw [hV] at HV
  clear hA hB hV
  have h5' : ((n : Int) == 5) = false := by simp; omega
  clear h5
  have hlt : (n : Int) < 25 := by omega
  have h0 : (0 : Int) ≤ n := Int.natCast_nonneg _
  unfold evV
  go_enter Tryd.func80, Tryd.ntmps80
  go_wp2_with fail
  obtain ⟨w1, hw1⟩ : ∃ w1, w1 = w.alloc (evO ⟨n, cyc, cnt, a, b, v⟩) := ⟨_, rfl⟩
  have hw1' := hw1
  unfold evO at hw1'
  rw [← hw1']
  obtain ⟨k0, k1, k2, k3, k4, k5, bl⟩ := evO_at hw1
  obtain ⟨c0, c1, c2, c3⟩ := (hL.below bl).row n (by omega)
  have b0 := Lib.hid bl
  simp only at k0 k1 k2 k3 k4 k5
  clear hw1 hw1' bl hL c0
  generalize spanA n = sa at *
  generalize spanB n = sb at *
  generalize spanV n = sv at *
  refine (H.out _).mono ?_
  rintro e w1 ⟨rfl, rfl⟩
  go_wp2_with fail
  go_quiet (first | (go_at_call_of 83 (Value.int .i64 sa); refine Calls.quiet_of_same (HA.out _)) | (go_at_call_of 83 (Value.int .i64 sb); refine Calls.quiet_of_same (HB.out _)) | (go_at_call_of 83 (Value.int .i64 sv); refine Calls.quiet_of_same (HV.out _)))
  go_wp2
  go_ret
  exact ⟨rfl, below_drewN b0.out _⟩

set_option maxRecDepth 100000 in
set_option maxHeartbeats 2000000 in
theorem check_5 (n cyc cnt a b v : Nat) (n1 : 1 ≤ n) (n2 : n ≤ 24) (w : World) (hL : EvL w) (hA : withinB (spanA n) a = true) (hB : withinB (spanB n) b = true) (hV : withinB (spanV n) v = true) (h5 : n = 5) (hab : a = b) :
    Calls Tryd.prog 80 #[evV ⟨n, cyc, cnt, a, b, v⟩] w fun r w' => r = .returned (.int .i64 5) ∧ Below w.heap.size w w' := by
  have H := Lib.hid (fun w => known_any (n : Int) w)
  rw [show knownB (n : Int) = true by simp [knownB]; omega] at H
  have HA := Lib.hid (fun w => within_same (spanA n) a w)
  have HB := Lib.hid (fun w => within_same (spanB n) b w)
  have HV := Lib.hid (fun w => within_same (spanV n) v w)
  rw [hA] at HA
  rw [hB] at HB
  rw [hV] at HV
  clear hA hB hV
  have h5' : ((n : Int) == 5) = true := by simp; omega
  have hab' : ((a : Int) == (b : Int)) = true := by simp [hab]
  clear h5 hab
  have hlt : (n : Int) < 25 := by omega
  have h0 : (0 : Int) ≤ n := Int.natCast_nonneg _
  unfold evV
  go_enter Tryd.func80, Tryd.ntmps80
  go_wp2_with fail
  obtain ⟨w1, hw1⟩ : ∃ w1, w1 = w.alloc (evO ⟨n, cyc, cnt, a, b, v⟩) := ⟨_, rfl⟩
  have hw1' := hw1
  unfold evO at hw1'
  rw [← hw1']
  obtain ⟨k0, k1, k2, k3, k4, k5, bl⟩ := evO_at hw1
  obtain ⟨c0, c1, c2, c3⟩ := (hL.below bl).row n (by omega)
  have b0 := Lib.hid bl
  simp only at k0 k1 k2 k3 k4 k5
  clear hw1 hw1' bl hL c0
  generalize spanA n = sa at *
  generalize spanB n = sb at *
  generalize spanV n = sv at *
  refine (H.out _).mono ?_
  rintro e w1 ⟨rfl, rfl⟩
  go_wp2_with fail
  go_quiet (first | (go_at_call_of 83 (Value.int .i64 sa); refine Calls.quiet_of_same (HA.out _)) | (go_at_call_of 83 (Value.int .i64 sb); refine Calls.quiet_of_same (HB.out _)) | (go_at_call_of 83 (Value.int .i64 sv); refine Calls.quiet_of_same (HV.out _)))
  go_wp2
  go_ret
  exact ⟨rfl, below_drewN b0.out _⟩

set_option maxRecDepth 100000 in
set_option maxHeartbeats 2000000 in
theorem check_6 (n cyc cnt a b v : Nat) (n1 : 1 ≤ n) (n2 : n ≤ 24) (w : World) (hL : EvL w) (hA : withinB (spanA n) a = true) (hB : withinB (spanB n) b = true) (hV : withinB (spanV n) v = true) (h5 : n = 5) (hab : a ≠ b) :
    Calls Tryd.prog 80 #[evV ⟨n, cyc, cnt, a, b, v⟩] w fun r w' => r = .returned (.int .i64 0) ∧ Below w.heap.size w w' := by
  have H := Lib.hid (fun w => known_any (n : Int) w)
  rw [show knownB (n : Int) = true by simp [knownB]; omega] at H
  have HA := Lib.hid (fun w => within_same (spanA n) a w)
  have HB := Lib.hid (fun w => within_same (spanB n) b w)
  have HV := Lib.hid (fun w => within_same (spanV n) v w)
  rw [hA] at HA
  rw [hB] at HB
  rw [hV] at HV
  clear hA hB hV
  have h5' : ((n : Int) == 5) = true := by simp; omega
  have hab' : ((a : Int) == (b : Int)) = false := by simp; omega
  clear h5 hab
  have hlt : (n : Int) < 25 := by omega
  have h0 : (0 : Int) ≤ n := Int.natCast_nonneg _
  unfold evV
  go_enter Tryd.func80, Tryd.ntmps80
  go_wp2_with fail
  obtain ⟨w1, hw1⟩ : ∃ w1, w1 = w.alloc (evO ⟨n, cyc, cnt, a, b, v⟩) := ⟨_, rfl⟩
  have hw1' := hw1
  unfold evO at hw1'
  rw [← hw1']
  obtain ⟨k0, k1, k2, k3, k4, k5, bl⟩ := evO_at hw1
  obtain ⟨c0, c1, c2, c3⟩ := (hL.below bl).row n (by omega)
  have b0 := Lib.hid bl
  simp only at k0 k1 k2 k3 k4 k5
  clear hw1 hw1' bl hL c0
  generalize spanA n = sa at *
  generalize spanB n = sb at *
  generalize spanV n = sv at *
  refine (H.out _).mono ?_
  rintro e w1 ⟨rfl, rfl⟩
  go_wp2_with fail
  go_quiet (first | (go_at_call_of 83 (Value.int .i64 sa); refine Calls.quiet_of_same (HA.out _)) | (go_at_call_of 83 (Value.int .i64 sb); refine Calls.quiet_of_same (HB.out _)) | (go_at_call_of 83 (Value.int .i64 sv); refine Calls.quiet_of_same (HV.out _)))
  go_wp2
  go_ret
  exact ⟨rfl, below_drewN b0.out _⟩

theorem check_any (e : Ev) (w : World) (hL : EvL w) :
    Calls Tryd.prog 80 #[evV e] w fun r w' => r = .returned (.int .i64 (checkN e)) ∧ Below w.heap.size w w' := by
  cases hk : knownB e.kind with
  | false => rw [show checkN e = 1 by simp [checkN, hk]]; exact check_not e hk w
  | true =>
    obtain ⟨k, cyc, cnt, a, b, v⟩ := e
    simp only at hk
    obtain ⟨n, rfl, n1, n2⟩ := known_nat hk
    cases hA : withinB (spanA n) a with
    | false => rw [show checkN ⟨n, cyc, cnt, a, b, v⟩ = 5 by simp [checkN, hk, allIn, hA]]; exact check_a n cyc cnt a b v n1 n2 w hL hA
    | true =>
      cases hB : withinB (spanB n) b with
      | false => rw [show checkN ⟨n, cyc, cnt, a, b, v⟩ = 5 by simp [checkN, hk, allIn, hA, hB]]; exact check_b n cyc cnt a b v n1 n2 w hL hA hB
      | true =>
        cases hV : withinB (spanV n) v with
        | false => rw [show checkN ⟨n, cyc, cnt, a, b, v⟩ = 5 by simp [checkN, hk, allIn, hA, hB, hV]]; exact check_v n cyc cnt a b v n1 n2 w hL hA hB hV
        | true =>
          by_cases h5 : n = 5
          · by_cases hab : a = b
            · rw [show checkN ⟨n, cyc, cnt, a, b, v⟩ = 5 by simp only [checkN, hk, allIn, Int.toNat_natCast, hA, hB, hV]; simp [h5, hab]]; exact check_5 n cyc cnt a b v n1 n2 w hL hA hB hV h5 hab
            · rw [show checkN ⟨n, cyc, cnt, a, b, v⟩ = 0 by simp only [checkN, hk, allIn, Int.toNat_natCast, hA, hB, hV]; simp [hab]]; exact check_6 n cyc cnt a b v n1 n2 w hL hA hB hV h5 hab
          · rw [show checkN ⟨n, cyc, cnt, a, b, v⟩ = 0 by simp only [checkN, hk, allIn, Int.toNat_natCast, hA, hB, hV]; rw [if_neg (by decide), if_neg (by decide), if_neg (by omega)]]; exact check_n n cyc cnt a b v n1 n2 w hL hA hB hV h5

end Go.Proofs.YtobioiicbdhboaaDoor
