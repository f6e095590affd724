/-
  The document's own answers of layer 5 (taffrailref05), the part on kinds: in, Has, Names, first, second, third, Check, over this seat's translation. No condition.
-/
import Derived.Test.YtobioiicbdhboaaDoorEvB
namespace Go.Proofs.YtobioiicbdhboaaDoor
open Go.RowKit
set_option linter.unusedVariables false
set_option linter.unusedSimpArgs false

def inB (n lo hi : Int) : Bool := decide (lo ≤ n) && decide (n ≤ hi)
def firstT (k a : Int) : Bool := if k = 1 then inB a 0 15 else if k = 2 then inB a 0 15 else if k = 3 then inB a 0 15 else if k = 4 then inB a 0 15 else if k = 20 then inB a 0 15 else if k = 5 then inB a 0 63 || (a == 255) else if k = 6 then inB a 0 63 else if k = 7 then inB a 0 63 else if k = 8 then inB a 0 63 else if k = 9 then inB a 0 63 else if k = 10 then inB a 0 63 else if k = 11 then inB a 0 63 else if k = 12 then inB a 0 63 else if k = 13 then inB a 0 63 else if k = 15 then inB a 0 63 else if k = 22 then inB a 0 63 else if k = 14 then inB a 0 80 else if k = 23 then inB a 0 80 else if k = 16 then inB a 0 79 else if k = 17 then inB a 0 79 else if k = 19 then inB a 0 79 else if k = 21 then inB a 0 79 else if k = 18 then inB a 0 31 else (a == 0)
def secondT (k a b : Int) : Bool := if k = 1 then inB b 0 1 else if k = 10 then inB b 0 1 else if k = 2 then inB b 0 79 else if k = 20 then inB b 0 79 else if k = 5 then (inB b 0 63 || (b == 255)) && (b != a) else if k = 9 then (b == 0) || inB b 32 159 else if k = 11 then inB b 0 31 else if k = 12 then inB b 0 31 else if k = 13 then inB b 0 31 else if k = 14 then inB b 0 31 else if k = 15 then inB b 0 31 else if k = 16 then inB b 0 31 else if k = 17 then inB b 0 31 else if k = 19 then inB b 0 31 else if k = 21 then inB b 0 16 else if k = 23 then inB b 0 16 else (b == 0)
def thirdT (k v : Int) : Bool := if k = 2 then true else if k = 6 then true else if k = 8 then true else if k = 16 then true else if k = 17 then true else if k = 19 then true else if k = 20 then true else if k = 7 then inB v 1 255 else if k = 14 then inB v 0 255 else if k = 15 then inB v 0 255 else if k = 23 then inB v 0 38 else (v == 0)
def hasT (k : Int) : Bool × Bool × Bool := if k = 2 then (true, true, true) else if k = 14 then (true, true, true) else if k = 15 then (true, true, true) else if k = 16 then (true, true, true) else if k = 17 then (true, true, true) else if k = 19 then (true, true, true) else if k = 20 then (true, true, true) else if k = 23 then (true, true, true) else if k = 1 then (true, true, false) else if k = 5 then (true, true, false) else if k = 9 then (true, true, false) else if k = 10 then (true, true, false) else if k = 11 then (true, true, false) else if k = 12 then (true, true, false) else if k = 13 then (true, true, false) else if k = 21 then (true, true, false) else if k = 6 then (true, false, true) else if k = 7 then (true, false, true) else if k = 8 then (true, false, true) else if k = 3 then (true, false, false) else if k = 4 then (true, false, false) else if k = 18 then (true, false, false) else if k = 22 then (true, false, false) else (false, false, false)

set_option maxRecDepth 100000 in
theorem rin_any (n lo hi : Int) (w : World) :
    Calls Tryd.prog 64 #[.int .u32 n, .int .u32 lo, .int .u32 hi] w fun e w' => e = .returned (.bool (inB n lo hi)) ∧ w = w' := by
  by_cases h : lo ≤ n
  · have e : inB n lo hi = decide (n ≤ hi) := by unfold inB; rw [decide_eq_true h, Bool.true_and]
    rw [e]
    clear e
    go_enter Tryd.func64, Tryd.ntmps64
    go_wp2
    go_ret
    exact ⟨rfl, rfl⟩
  · have h' : decide (lo ≤ n) = false := by simp; omega
    have e : inB n lo hi = false := by unfold inB; rw [h', Bool.false_and]
    rw [e]
    clear e h
    go_enter Tryd.func64, Tryd.ntmps64
    go_wp2
    go_ret
    exact ⟨rfl, rfl⟩

theorem below_box {w : World} (o : Obj) : Below w.heap.size w (w.alloc o) := (Below.refl _ w).alloc (Nat.le_refl _) o

set_option maxRecDepth 100000 in
set_option maxHeartbeats 4000000 in
theorem rfirst_any (e : Ev) (w : World) :
    Calls Tryd.prog 53 #[evV e] w fun r w' => r = .returned (.bool (firstT e.kind e.a)) ∧ Below w.heap.size w w' := by
  obtain ⟨k, cyc, cnt, a, b, v⟩ := e
  unfold evV
  go_enter Tryd.func53, Tryd.ntmps53
  go_wp2_with (go_at_call 64; refine (rin_any _ _ _ _).mono ?_; rintro r w1 ⟨rfl, rfl⟩)
  all_goals (go_ret; refine ⟨?_, below_box _⟩; go_light; simp only [beq_iff_eq, beq_eq_false_iff_ne, ne_eq, bne_iff_ne, bne_eq_false_iff_eq, Bool.not_eq_true] at *; simp [firstT, *])

set_option maxRecDepth 100000 in
set_option maxHeartbeats 4000000 in
theorem rsecond_any (e : Ev) (w : World) :
    Calls Tryd.prog 54 #[evV e] w fun r w' => r = .returned (.bool (secondT e.kind e.a e.b)) ∧ Below w.heap.size w w' := by
  obtain ⟨k, cyc, cnt, a, b, v⟩ := e
  unfold evV
  go_enter Tryd.func54, Tryd.ntmps54
  go_wp2_with (go_at_call 64; refine (rin_any _ _ _ _).mono ?_; rintro r w1 ⟨rfl, rfl⟩)
  all_goals (go_ret; refine ⟨?_, below_box _⟩; go_light; simp only [beq_iff_eq, beq_eq_false_iff_ne, ne_eq, bne_iff_ne, bne_eq_false_iff_eq, Bool.not_eq_true] at *; simp [secondT, *])

set_option maxRecDepth 100000 in
set_option maxHeartbeats 4000000 in
theorem rthird_any (e : Ev) (w : World) :
    Calls Tryd.prog 55 #[evV e] w fun r w' => r = .returned (.bool (thirdT e.kind e.v)) ∧ Below w.heap.size w w' := by
  obtain ⟨k, cyc, cnt, a, b, v⟩ := e
  unfold evV
  go_enter Tryd.func55, Tryd.ntmps55
  go_wp2_with (go_at_call 64; refine (rin_any _ _ _ _).mono ?_; rintro r w1 ⟨rfl, rfl⟩)
  all_goals (go_ret; refine ⟨?_, below_box _⟩; go_light; simp only [beq_iff_eq, beq_eq_false_iff_ne, ne_eq, bne_iff_ne, bne_eq_false_iff_eq, Bool.not_eq_true] at *; simp [thirdT, *])

end Go.Proofs.YtobioiicbdhboaaDoor
