/-
  What Form, Check and Cost of package isa do, over this seat's translation. Conditions: the table's cells (IsL).
-/
import Derived.Test.YtoalgajbahlpjaaDoorIs1
namespace Go.Proofs.YtoalgajbahlpjaaDoor
open Go.RowKit
set_option linter.unusedVariables false
set_option linter.unusedSimpArgs false

set_option maxRecDepth 100000 in
theorem iform_not (i : Ins) (hk : opB i.op = false) (w : World) :
    Calls Tryd.prog 21 #[insV i] w fun r w' => r = .returned (.int .i64 14) ∧ Below w.heap.size w w' := by
  have H := Lib.hid (fun w => iknown_any i.op w)
  rw [hk] at H
  clear hk
  obtain ⟨op, a, b, c, d, k⟩ := i
  unfold insV
  simp only at *
  go_enter Tryd.func21, Tryd.ntmps21
  go_wp2_with fail
  refine (H.out _).mono ?_
  rintro e w1 ⟨rfl, rfl⟩
  go_wp2
  go_ret
  exact ⟨rfl, below_box _⟩

set_option maxRecDepth 100000 in
set_option maxHeartbeats 2000000 in
theorem iform_walk (i : Ins) (uA uB uC uD uK cc qa qb qc qd qn : Bool) (res : Int) (w : World) (hL : IsL w)
    (HK : Hid (∀ w', Calls Tryd.prog 26 #[.int .i64 i.op] w' fun e w'' => e = .returned (.bool true) ∧ w' = w''))
    (HU : Hid (∀ w', IsL w' → Calls Tryd.prog 27 #[.int .i64 i.op] w' fun e w'' => e = .returned (.tuple #[.bool uA, .bool uB, .bool uC, .bool uD, .bool uK]) ∧ w' = w''))
    (hcc : Hid (cc = (uC && (!uD || (i.d == 2)))))
    (HA : Hid (∀ w', Calls Tryd.prog 28 #[.int .i64 i.a, .int .i64 8, .bool uA] w' fun e w'' => e = .returned (.bool qa) ∧ w' = w''))
    (HB : Hid (∀ w', Calls Tryd.prog 28 #[.int .i64 i.b, .int .i64 8, .bool uB] w' fun e w'' => e = .returned (.bool qb) ∧ w' = w''))
    (HC : Hid (∀ w', Calls Tryd.prog 28 #[.int .i64 i.c, .int .i64 8, .bool cc] w' fun e w'' => e = .returned (.bool qc) ∧ w' = w''))
    (HD : Hid (∀ w', Calls Tryd.prog 28 #[.int .i64 i.d, .int .i64 3, .bool uD] w' fun e w'' => e = .returned (.bool qd) ∧ w' = w''))
    (HN : Hid (∀ w', Calls Tryd.prog 29 #[insV i, .bool uK] w' fun e w'' => e = .returned (.bool qn) ∧ Below w'.heap.size w' w''))
    (hr : Hid (res = if (qa && qb && qc && qd && qn) = true then 0 else 5)) :
    Calls Tryd.prog 21 #[insV i] w fun r w' => r = .returned (.int .i64 res) ∧ Below w.heap.size w w' := by
  obtain ⟨w1, e1⟩ : ∃ w1, w1 = w.alloc (insO i) := ⟨_, rfl⟩
  obtain ⟨-, n1, b1⟩ := new_size e1
  obtain ⟨c0, c1, c2, c3, c4, c5⟩ := inscells n1
  have L1 := Lib.hid (hL.below b1)
  have B1 := Lib.hid b1
  obtain ⟨E, hE⟩ : ∃ E, w.heap.size = E := ⟨_, rfl⟩
  rw [hE] at c0 c1 c2 c3 c4 c5
  have HE := Lib.hid hE
  clear n1 b1 hL hE
  obtain ⟨op, a, b, c, d, k⟩ := i
  unfold insO at e1
  unfold insV at *
  simp only at *
  go_enter Tryd.func21, Tryd.ntmps21
  go_wp2_with fail
  rw [← e1, HE.out]
  clear e1
  refine (HK.out _).mono ?_
  rintro e w2 ⟨rfl, rfl⟩
  go_wp2_with fail
  refine (HU.out _ L1.out).mono ?_
  rintro e w2 ⟨rfl, rfl⟩
  clear HU HK L1
  cases uC <;> cases uD
  case' false.false => obtain rfl : cc = false := hcc.out
  case' false.true => obtain rfl : cc = false := hcc.out
  case' true.false => obtain rfl : cc = true := hcc.out
  case' true.true => obtain rfl : cc = (d == 2) := hcc.out
  all_goals
    clear hcc
    go_wp2_with fail
    refine (HA.out _).mono ?_
    rintro e w2 ⟨rfl, rfl⟩
    cases qa
    · obtain rfl : res = 5 := hr.out
      go_wp2
      go_ret
      exact ⟨rfl, B1.out⟩
    go_wp2_with fail
    refine (HB.out _).mono ?_
    rintro e w2 ⟨rfl, rfl⟩
    cases qb
    · obtain rfl : res = 5 := hr.out
      go_wp2
      go_ret
      exact ⟨rfl, B1.out⟩
    go_wp2_with fail
    refine (HC.out _).mono ?_
    rintro e w2 ⟨rfl, rfl⟩
    cases qc
    · obtain rfl : res = 5 := hr.out
      go_wp2
      go_ret
      exact ⟨rfl, B1.out⟩
    go_wp2_with fail
    refine (HD.out _).mono ?_
    rintro e w2 ⟨rfl, rfl⟩
    cases qd
    · obtain rfl : res = 5 := hr.out
      go_wp2
      go_ret
      exact ⟨rfl, B1.out⟩
    go_wp2_with fail
    refine (HN.out _).mono ?_
    rintro e w2 ⟨rfl, h2⟩
    have B2 := Lib.hid (below_on B1.out h2)
    clear h2
    cases qn
    · obtain rfl : res = 5 := hr.out
      go_wp2
      go_ret
      exact ⟨rfl, B2.out⟩
    obtain rfl : res = 0 := hr.out
    go_wp2
    go_ret
    exact ⟨rfl, B2.out⟩

theorem iform_any (i : Ins) (w : World) (hL : IsL w) :
    Calls Tryd.prog 21 #[insV i] w fun r w' => r = .returned (.int .i64 (formI i)) ∧ Below w.heap.size w w' := by
  cases hk : opB i.op with
  | false =>
    rw [show formI i = 14 by simp [formI, hk]]
    exact iform_not i hk w
  | true =>
    refine iform_walk i (hasF 0 i.op) (hasF 1 i.op) (hasF 2 i.op) (hasF 3 i.op) (hasF 4 i.op) (cHas i.op i.d) _ _ _ _ _ (formI i) w hL (fun w' => hk ▸ iknown_any i.op w') (fun w' h' => iuses_any i.op w' h') ?_
      (fun w' => iwithin_any _ _ _ w') (fun w' => iwithin_any _ _ _ w') (fun w' => iwithin_any _ _ _ w') (fun w' => iwithin_any _ _ _ w') (fun w' => inumbered_any i _ w') ?_
    · show cHas i.op i.d = _
      unfold cHas
      rw [show (i.d == 2) = decide (i.d = 2) from rfl]
    · show formI i = _
      unfold formI
      rw [hk]
      cases within8 i.a 8 _ <;> cases within8 i.b 8 _ <;> cases within8 i.c 8 _ <;> cases within8 i.d 3 _ <;> cases kOk i.op i.k _ <;> rfl


end Go.Proofs.YtoalgajbahlpjaaDoor
