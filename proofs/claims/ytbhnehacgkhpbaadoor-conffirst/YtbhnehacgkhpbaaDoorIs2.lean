/-
  What Form, Check and Cost of package isa do, over this seat's translation. Conditions: the table's cells (IsL).
-/
import Derived.Test.YtbhnehacgkhpbaaDoorIs1
namespace Go.Proofs.YtbhnehacgkhpbaaDoor
open Go.RowKit
set_option linter.unusedVariables false
set_option linter.unusedSimpArgs false

set_option maxRecDepth 100000 in
theorem iform_not (i : Ins) (hk : opB i.op = false) (w : World) :
    Calls Tryd.prog 48 #[insV i] w fun r w' => r = .returned (.int .i64 14) ∧ Below w.heap.size w w' := by
  have H := Lib.hid (fun w => iknown_any i.op w)
  rw [hk] at H
  clear hk
  obtain ⟨op, a, b, c, d, k⟩ := i
  unfold insV
  simp only at *
  go_enter Tryd.func48, Tryd.ntmps48
  go_wp2_with fail
  refine (H.out _).mono ?_
  rintro e w1 ⟨rfl, rfl⟩
  go_wp2
  go_ret
  exact ⟨rfl, below_box _⟩

set_option maxRecDepth 100000 in
set_option maxHeartbeats 2000000 in
theorem iform_walk (i : Ins) (uA uB uC uD uK cc qa qb qc qd qn : Bool) (res : Int) (w : World) (hL : IsL w)
    (HK : Hid (∀ w', Calls Tryd.prog 51 #[.int .i64 i.op] w' fun e w'' => e = .returned (.bool true) ∧ w' = w''))
    (HU : Hid (∀ w', IsL w' → Calls Tryd.prog 52 #[.int .i64 i.op] w' fun e w'' => e = .returned (.tuple #[.bool uA, .bool uB, .bool uC, .bool uD, .bool uK]) ∧ w' = w''))
    (hcc : Hid (cc = (uC && (!uD || (i.d == 2)))))
    (HA : Hid (∀ w', Calls Tryd.prog 53 #[.int .i64 i.a, .int .i64 8, .bool uA] w' fun e w'' => e = .returned (.bool qa) ∧ w' = w''))
    (HB : Hid (∀ w', Calls Tryd.prog 53 #[.int .i64 i.b, .int .i64 8, .bool uB] w' fun e w'' => e = .returned (.bool qb) ∧ w' = w''))
    (HC : Hid (∀ w', Calls Tryd.prog 53 #[.int .i64 i.c, .int .i64 8, .bool cc] w' fun e w'' => e = .returned (.bool qc) ∧ w' = w''))
    (HD : Hid (∀ w', Calls Tryd.prog 53 #[.int .i64 i.d, .int .i64 3, .bool uD] w' fun e w'' => e = .returned (.bool qd) ∧ w' = w''))
    (HN : Hid (∀ w', Calls Tryd.prog 54 #[insV i, .bool uK] w' fun e w'' => e = .returned (.bool qn) ∧ Below w'.heap.size w' w''))
    (hr : Hid (res = if (qa && qb && qc && qd && qn) = true then 0 else 5)) :
    Calls Tryd.prog 48 #[insV i] w fun r w' => r = .returned (.int .i64 res) ∧ Below w.heap.size w w' := by
  obtain ⟨w1, e1⟩ : ∃ w1, w1 = w.alloc (insO i) := ⟨_, rfl⟩
  obtain ⟨-, n1, b1⟩ := new_size e1
  obtain ⟨c0, c1, c2, c3, c4, c5⟩ := inscells n1
  have L1 := Lib.hid (hL.below b1)
  have B1 := Lib.hid b1
  obtain ⟨E, hE⟩ : ∃ E, w.heap.size = E := ⟨_, rfl⟩
  rw [hE] at c0 c1 c2 c3 c4 c5
  have HE := Lib.hid hE
  clear n1 b1 hL hE
  obtain ⟨op, a, b, c, d, k⟩ := i
  unfold insO at e1
  unfold insV at *
  simp only at *
  go_enter Tryd.func48, Tryd.ntmps48
  go_wp2_with fail
  rw [← e1, HE.out]
  clear e1
  refine (HK.out _).mono ?_
  rintro e w2 ⟨rfl, rfl⟩
  go_wp2_with fail
  refine (HU.out _ L1.out).mono ?_
  rintro e w2 ⟨rfl, rfl⟩
  clear HU HK L1
  cases uC <;> cases uD
  case' false.false => obtain rfl : cc = false := hcc.out
  case' false.true => obtain rfl : cc = false := hcc.out
  case' true.false => obtain rfl : cc = true := hcc.out
  case' true.true => obtain rfl : cc = (d == 2) := hcc.out
  all_goals
    clear hcc
    go_wp2_with fail
    refine (HA.out _).mono ?_
    rintro e w2 ⟨rfl, rfl⟩
    cases qa
    · obtain rfl : res = 5 := hr.out
      go_wp2
      go_ret
      exact ⟨rfl, B1.out⟩
    go_wp2_with fail
    refine (HB.out _).mono ?_
    rintro e w2 ⟨rfl, rfl⟩
    cases qb
    · obtain rfl : res = 5 := hr.out
      go_wp2
      go_ret
      exact ⟨rfl, B1.out⟩
    go_wp2_with fail
    refine (HC.out _).mono ?_
    rintro e w2 ⟨rfl, rfl⟩
    cases qc
    · obtain rfl : res = 5 := hr.out
      go_wp2
      go_ret
      exact ⟨rfl, B1.out⟩
    go_wp2_with fail
    refine (HD.out _).mono ?_
    rintro e w2 ⟨rfl, rfl⟩
    cases qd
    · obtain rfl : res = 5 := hr.out
      go_wp2
      go_ret
      exact ⟨rfl, B1.out⟩
    go_wp2_with fail
    refine (HN.out _).mono ?_
    rintro e w2 ⟨rfl, h2⟩
    have B2 := Lib.hid (below_on B1.out h2)
    clear h2
    cases qn
    · obtain rfl : res = 5 := hr.out
      go_wp2
      go_ret
      exact ⟨rfl, B2.out⟩
    obtain rfl : res = 0 := hr.out
    go_wp2
    go_ret
    exact ⟨rfl, B2.out⟩

theorem iform_any (i : Ins) (w : World) (hL : IsL w) :
    Calls Tryd.prog 48 #[insV i] w fun r w' => r = .returned (.int .i64 (formI i)) ∧ Below w.heap.size w w' := by
  cases hk : opB i.op with
  | false =>
    rw [show formI i = 14 by simp [formI, hk]]
    exact iform_not i hk w
  | true =>
    refine iform_walk i (hasF 0 i.op) (hasF 1 i.op) (hasF 2 i.op) (hasF 3 i.op) (hasF 4 i.op) (cHas i.op i.d) _ _ _ _ _ (formI i) w hL (fun w' => hk ▸ iknown_any i.op w') (fun w' h' => iuses_any i.op w' h') ?_
      (fun w' => iwithin_any _ _ _ w') (fun w' => iwithin_any _ _ _ w') (fun w' => iwithin_any _ _ _ w') (fun w' => iwithin_any _ _ _ w') (fun w' => inumbered_any i _ w') ?_
    · show cHas i.op i.d = _
      unfold cHas
      rw [show (i.d == 2) = decide (i.d = 2) from rfl]
    · show formI i = _
      unfold formI
      rw [hk]
      cases within8 i.a 8 _ <;> cases within8 i.b 8 _ <;> cases within8 i.c 8 _ <;> cases within8 i.d 3 _ <;> cases kOk i.op i.k _ <;> rfl

set_option maxRecDepth 100000 in
set_option maxHeartbeats 2000000 in
theorem icheck_walk (i : Ins) (hk : i.k < 4294967296) (size : Int) (isr : Bool) (f : Int) (q j : Bool) (res : Int) (w : World) (hL : IsL w)
    (HF : Hid (∀ w', IsL w' → Calls Tryd.prog 48 #[insV i] w' fun e w'' => e = .returned (.int .i64 f) ∧ Below w'.heap.size w' w''))
    (HI : Hid (∀ w', Calls Tryd.prog 49 #[insV i] w' fun e w'' => e = .returned (.bool q) ∧ Below w'.heap.size w' w''))
    (HJ : Hid (∀ w', Calls Tryd.prog 50 #[.int .i64 i.op] w' fun e w'' => e = .returned (.bool j) ∧ w' = w''))
    (hr : Hid (res = if f ≠ 0 then f else if ((isr && !q) || (!isr && decide (i.op = 38))) = true then 14 else if (j && decide (size ≤ (i.k : Int))) = true then 5 else 0)) :
    Calls Tryd.prog 45 #[insV i, .int .i64 size, .bool isr] w fun r w' => r = .returned (.int .i64 res) ∧ Below w.heap.size w w' := by
  obtain ⟨w1, e1⟩ : ∃ w1, w1 = w.alloc (insO i) := ⟨_, rfl⟩
  obtain ⟨-, n1, b1⟩ := new_size e1
  obtain ⟨c0, c1, c2, c3, c4, c5⟩ := inscells n1
  have L1 := Lib.hid (hL.below b1)
  have B1 := Lib.hid b1
  obtain ⟨E, hE⟩ : ∃ E, w.heap.size = E := ⟨_, rfl⟩
  rw [hE] at c0 c1 c2 c3 c4 c5 n1
  have HE := Lib.hid hE
  have N1 := Lib.hid n1
  clear n1 b1 hL hE
  obtain ⟨op, a, b, c, d, k⟩ := i
  unfold insO at e1
  unfold insV at *
  simp only at *
  have hk0 : (0 : Int) ≤ k := Int.natCast_nonneg _
  have hk1 : (k : Int) < 4294967296 := by omega
  clear hk
  go_enter Tryd.func45, Tryd.ntmps45
  go_wp2_with fail
  rw [← e1, HE.out]
  clear e1
  refine (HF.out _ L1.out).mono ?_
  rintro e w2 ⟨rfl, h2⟩
  have B2 := Lib.hid (below_on B1.out h2)
  have n2 := blk_on h2 N1.out
  have N2 := Lib.hid n2
  clear c0 c1 c2 c3 c4 c5 h2 HF L1 B1 N1
  obtain ⟨c0, c1, c2, c3, c4, c5⟩ := inscells n2
  simp only at c0 c1 c2 c3 c4 c5
  clear n2
  by_cases hf : f = 0
  case neg =>
    have hf' : (f != 0) = true := by simp [hf]
    obtain rfl : res = f := by rw [hr.out, if_pos hf]
    clear hr hf
    go_wp2
    go_ret
    exact ⟨rfl, B2.out⟩
  have hr2 := Lib.hid (hr.out.trans (if_neg (fun h => h hf)))
  subst hf
  clear hr
  cases isr with
  | true =>
    go_wp2_with fail
    refine (HI.out _).mono ?_
    rintro e w3 ⟨rfl, h3⟩
    have B3 := Lib.hid (below_on B2.out h3)
    have n3 := blk_on h3 N2.out
    clear c0 c1 c2 c3 c4 c5 h3 B2 N2 HI
    obtain ⟨c0, c1, c2, c3, c4, c5⟩ := inscells n3
    simp only at c0 c1 c2 c3 c4 c5
    clear n3
    cases q
    · obtain rfl : res = 14 := hr2.out
      clear hr2
      go_wp2
      go_ret
      exact ⟨rfl, B3.out⟩
    go_wp2_with fail
    refine (HJ.out _).mono ?_
    rintro e w4 ⟨rfl, rfl⟩
    cases j
    · obtain rfl : res = 0 := hr2.out
      clear hr2
      go_wp2
      go_ret
      exact ⟨rfl, B3.out⟩
    by_cases hs : size ≤ (k : Int)
    · obtain rfl : res = 5 := by rw [hr2.out]; simp [hs]
      clear hr2
      go_wp2
      go_ret
      exact ⟨rfl, B3.out⟩
    · obtain rfl : res = 0 := by rw [hr2.out]; simp [hs]
      clear hr2
      have hs' : decide (size ≤ (k : Int)) = false := by simp; omega
      go_wp2
      go_ret
      exact ⟨rfl, B3.out⟩
  | false =>
    by_cases ho : op = 38
    · obtain rfl : res = 14 := by rw [hr2.out]; simp [ho]
      clear hr2
      have ho' : (op == 38) = true := by simp [ho]
      clear ho
      go_wp2
      go_ret
      exact ⟨rfl, B2.out⟩
    have hr3 : Hid (res = if (j && decide (size ≤ (k : Int))) = true then 5 else 0) := Lib.hid (by rw [hr2.out]; simp [ho])
    have ho' : (op == 38) = false := by simp [ho]
    clear ho hr2
    go_wp2_with fail
    refine (HJ.out _).mono ?_
    rintro e w4 ⟨rfl, rfl⟩
    cases j
    · obtain rfl : res = 0 := hr3.out
      clear hr3
      go_wp2
      go_ret
      exact ⟨rfl, B2.out⟩
    by_cases hs : size ≤ (k : Int)
    · obtain rfl : res = 5 := by rw [hr3.out]; simp [hs]
      clear hr3
      go_wp2
      go_ret
      exact ⟨rfl, B2.out⟩
    · obtain rfl : res = 0 := by rw [hr3.out]; simp [hs]
      clear hr3
      have hs' : decide (size ≤ (k : Int)) = false := by simp; omega
      go_wp2
      go_ret
      exact ⟨rfl, B2.out⟩

theorem icheck_any (i : Ins) (hk : i.k < 4294967296) (size : Int) (isr : Bool) (w : World) (hL : IsL w) :
    Calls Tryd.prog 45 #[insV i, .int .i64 size, .bool isr] w fun r w' => r = .returned (.int .i64 (checkI i size isr)) ∧ Below w.heap.size w w' :=
  icheck_walk i hk size isr (formI i) (lineB i.op i.d) (jumpB i.op) _ w hL (fun w' h' => iform_any i w' h') (fun w' => iinline_any i w') (fun w' => ijumps_any i.op w') (Lib.hid rfl)


end Go.Proofs.YtbhnehacgkhpbaaDoor
