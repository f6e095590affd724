/-
  What each call of package isa (layer 10) does, a contract for each function, over this seat's translation. Conditions: the table's cells (IsL).
-/
import Derived.Test.YtoalgajbahlpjaaDoorIsL
import Derived.BigQuiet
import Derived.WalkKit
import Derived.Deep.Light
import Derived.Deep.RegionWith
namespace Go.Proofs.YtoalgajbahlpjaaDoor
open Go.RowKit
set_option linter.unusedVariables false
set_option linter.unusedSimpArgs false

set_option maxRecDepth 100000 in
theorem iknown_any (op : Int) (w : World) :
    Calls Tryd.prog 26 #[.int .i64 op] w fun e w' => e = .returned (.bool (opB op)) ∧ w = w' := by
  by_cases h1 : 1 ≤ op
  · have e : opB op = decide (op ≤ 38) := by simp [opB, h1]
    rw [e]
    clear e
    go_enter Tryd.func26, Tryd.ntmps26
    go_wp2
    go_ret
    exact ⟨rfl, rfl⟩
  · have e : opB op = false := by simp [opB, h1]
    rw [e]
    clear e
    go_enter Tryd.func26, Tryd.ntmps26
    go_wp2
    go_ret
    exact ⟨rfl, rfl⟩

set_option maxRecDepth 100000 in
theorem iwithin_any (n bound : Int) (has : Bool) (w : World) :
    Calls Tryd.prog 28 #[.int .i64 n, .int .i64 bound, .bool has] w fun e w' => e = .returned (.bool (within8 n bound has)) ∧ w = w' := by
  by_cases h0 : n = 0
  · have hb : (n == 0) = true := by simp [h0]
    rw [show within8 n bound has = true by simp [within8, h0]]
    clear h0
    go_enter Tryd.func28, Tryd.ntmps28
    go_wp2
    go_ret
    exact ⟨rfl, rfl⟩
  have hb : (n == 0) = false := by simp [h0]
  cases has with
  | false =>
    rw [show within8 n bound false = false by simp [within8, h0]]
    clear h0
    go_enter Tryd.func28, Tryd.ntmps28
    go_wp2
    go_ret
    exact ⟨rfl, rfl⟩
  | true =>
    by_cases h1 : 0 < n
    · rw [show within8 n bound true = decide (n < bound) by simp [within8, h0, h1]]
      clear h0
      go_enter Tryd.func28, Tryd.ntmps28
      go_wp2
      go_ret
      exact ⟨rfl, rfl⟩
    · have h1' : decide (0 < n) = false := by simp; omega
      rw [show within8 n bound true = false by simp [within8, h0]; omega]
      clear h0 h1
      go_enter Tryd.func28, Tryd.ntmps28
      go_wp2
      go_ret
      exact ⟨rfl, rfl⟩

set_option maxRecDepth 100000 in
set_option maxHeartbeats 1000000 in
theorem inumbered_any (i : Ins) (has : Bool) (w : World) :
    Calls Tryd.prog 29 #[insV i, .bool has] w fun e w' => e = .returned (.bool (kOk i.op i.k has)) ∧ Below w.heap.size w w' := by
  obtain ⟨op, a, b, c, d, k⟩ := i
  unfold insV
  simp only
  have hk0 : (0 : Int) ≤ k := Int.natCast_nonneg _
  cases has <;>
  · go_enter Tryd.func29, Tryd.ntmps29
    go_wp2
    all_goals (go_ret; refine ⟨congrArg (fun x => Ending.returned (Value.bool x)) ?_, below_box _⟩; go_light; refine bool_eq ?_; simp only [beq_iff_eq, beq_eq_false_iff_ne, ne_eq] at *; simp [kOk, *] <;> omega)

set_option maxRecDepth 100000 in
set_option maxHeartbeats 1000000 in
theorem iuses_row (n h : Nat) (n1 : 1 ≤ n) (n2 : n ≤ 38) (w : World) (c1 : w.cell? ⟨0, n * 3 + 1, none⟩ = some (.int .i64 (h : Int)))
    (hh : h = 0 ∨ h = 1 ∨ h = 3 ∨ h = 5 ∨ h = 7 ∨ h = 16 ∨ h = 17 ∨ h = 19 ∨ h = 21 ∨ h = 29 ∨ h = 31) :
    Calls Tryd.prog 27 #[.int .i64 (n : Int)] w fun e w' => e = .returned (.tuple #[.bool (hbit h 0), .bool (hbit h 1), .bool (hbit h 2), .bool (hbit h 3), .bool (hbit h 4)]) ∧ w = w' := by
  have H := Lib.hid (iknown_any (n : Int) w)
  rw [opB_nat n1 n2] at H
  have hlt : (n : Int) < 39 := by omega
  have h0 : (0 : Int) ≤ n := Int.natCast_nonneg _
  clear n1 n2
  rcases hh with rfl | rfl | rfl | rfl | rfl | rfl | rfl | rfl | rfl | rfl | rfl
  all_goals
    go_enter Tryd.func27, Tryd.ntmps27
    go_wp2_with fail
    refine H.out.mono ?_
    rintro e w1 ⟨rfl, rfl⟩
    go_wp2
    (try simp only [Exit.inBlock, Exit.then])
    refine bodyPost_ret (results_five rfl _ _ _) rfl ?_
    exact ⟨rfl, rfl⟩

set_option maxRecDepth 100000 in
theorem iuses_not (op : Int) (w : World) (hk : opB op = false) :
    Calls Tryd.prog 27 #[.int .i64 op] w fun e w' => e = .returned (.tuple #[.bool false, .bool false, .bool false, .bool false, .bool false]) ∧ w = w' := by
  have H := Lib.hid (iknown_any op w)
  rw [hk] at H
  clear hk
  go_enter Tryd.func27, Tryd.ntmps27
  go_wp2_with fail
  refine H.out.mono ?_
  rintro e w1 ⟨rfl, rfl⟩
  go_wp2
  (try simp only [Exit.inBlock, Exit.then])
  refine bodyPost_ret (results_five rfl _ _ _) rfl ?_
  exact ⟨rfl, rfl⟩

theorem iuses_any (op : Int) (w : World) (hL : IsL w) :
    Calls Tryd.prog 27 #[.int .i64 op] w fun e w' => e = .returned (.tuple #[.bool (hasF 0 op), .bool (hasF 1 op), .bool (hasF 2 op), .bool (hasF 3 op), .bool (hasF 4 op)]) ∧ w = w' := by
  cases hk : opB op with
  | true =>
    obtain ⟨n, rfl, n1, n2⟩ := op_nat hk
    simp only [hasF_nat n1 n2]
    exact iuses_row n (ihas n) n1 n2 w (hL.row n (by omega)).2.1 (ihas_is ⟨n, by omega⟩)
  | false =>
    simp only [hasF_not hk]
    exact iuses_not op w hk

end Go.Proofs.YtoalgajbahlpjaaDoor
