/-
  The document's own answers of layer 10 (taffrailref10): Form, a walk for each group of fields (part c), over this seat's translation. No condition.
-/
import Derived.Test.YtoalgajbahlpjaaDoorIsR2
namespace Go.Proofs.YtoalgajbahlpjaaDoor
open Go.RowKit
set_option linter.unusedVariables false
set_option linter.unusedSimpArgs false

set_option maxRecDepth 100000 in
set_option maxHeartbeats 2000000 in
theorem riform_p21 (i : Ins) (S : ByteArray) (za zb zc zd zk y2 p20 p21 p22 k1 k2 k3 b2 b3 b4 : Bool) (res : Int) (w : World) (ho1 : decide (i.op < 1) = false) (ho2 : decide (38 < i.op) = false)
    (HH : Hid (∀ w', Calls Tryd.prog 23 #[.int .i64 i.op] w' fun e w'' => e = .returned (.string S) ∧ w' = w''))
    (HA : Hid (∀ w', Calls Tryd.prog 24 #[.string S, .int .u8 65] w' fun e w'' => e = .returned (.bool true) ∧ w' = w''))
    (HB : Hid (∀ w', Calls Tryd.prog 24 #[.string S, .int .u8 66] w' fun e w'' => e = .returned (.bool false) ∧ w' = w''))
    (HC : Hid (∀ w', Calls Tryd.prog 24 #[.string S, .int .u8 67] w' fun e w'' => e = .returned (.bool true) ∧ w' = w''))
    (HD : Hid (∀ w', Calls Tryd.prog 24 #[.string S, .int .u8 68] w' fun e w'' => e = .returned (.bool false) ∧ w' = w''))
    (HK : Hid (∀ w', Calls Tryd.prog 24 #[.string S, .int .u8 75] w' fun e w'' => e = .returned (.bool true) ∧ w' = w''))
    (f0 : decide (i.a < 0) = false) (f1 : decide (7 < i.a) = false) (f2 : decide (i.b < 0) = false) (f3 : decide (7 < i.b) = false) (f4 : decide (i.c < 0) = false) (f5 : decide (7 < i.c) = false) (f6 : decide (i.d < 0) = false) (f7 : decide (2 < i.d) = false)
    (qa : (i.a != 0) = za) (qb : (i.b != 0) = zb) (qc : (i.c != 0) = zc) (qd : (i.d != 0) = zd) (qk : ((i.k : Int) != 0) = zk) (q2 : (i.d != 2) = y2)
    (o0 : (i.op == 20) = p20) (o1 : (i.op == 21) = p21) (o2 : (i.op == 22) = p22) (j1 : decide ((i.k : Int) < 1) = k1) (j2 : decide (1000 < (i.k : Int)) = k2) (j3 : decide (15 < (i.k : Int)) = k3)
    (e2 : Hid (((!true && za) || (!false && zb) || (!true && zc) || (!false && zd) || (!true && zk)) = b2)) (e3 : Hid ((false && y2 && zc) = b3)) (e4 : Hid (((p20 && (k1 || k2)) || ((p21 || p22) && k3)) = b4))
    (hr : Hid (res = if b2 = true then 5 else if b3 = true then 5 else if b4 = true then 5 else 0)) :
    Calls Tryd.prog 19 #[insV i] w fun r w' => r = .returned (.int .i64 res) ∧ Below w.heap.size w w' := by
  obtain ⟨w1, e0⟩ : ∃ w1, w1 = w.alloc (insO i) := ⟨_, rfl⟩
  obtain ⟨-, n1, bl⟩ := new_size e0
  obtain ⟨c0, c1, c2, c3, c4, c5⟩ := inscells n1
  have B1 := Lib.hid bl
  obtain ⟨E, hE⟩ : ∃ E, w.heap.size = E := ⟨_, rfl⟩
  rw [hE] at c0 c1 c2 c3 c4 c5
  have HE := Lib.hid hE
  clear n1 bl hE
  obtain ⟨op, a, b, c, d, k⟩ := i
  unfold insO at e0
  unfold insV at *
  simp only at *
  have hk0 : (0 : Int) ≤ k := Int.natCast_nonneg _
  go_enter Tryd.func19, Tryd.ntmps19
  go_wp2_with fail
  rw [← e0, HE.out]
  clear e0
  refine (HH.out _).mono ?_
  rintro e w2 ⟨rfl, rfl⟩
  go_wp2_with fail
  refine (HA.out _).mono ?_
  rintro e w2 ⟨rfl, rfl⟩
  go_wp2_with fail
  refine (HB.out _).mono ?_
  rintro e w2 ⟨rfl, rfl⟩
  cases zb
  case true =>
    obtain rfl : b2 = true := e2.out.symm.trans (by simp)
    obtain rfl : res = 5 := hr.out
    clear hr
    go_wp2
    go_ret
    exact ⟨rfl, B1.out⟩
  case false =>
  go_wp2_with fail
  refine (HC.out _).mono ?_
  rintro e w2 ⟨rfl, rfl⟩
  go_wp2_with fail
  refine (HD.out _).mono ?_
  rintro e w2 ⟨rfl, rfl⟩
  cases zd
  case true =>
    obtain rfl : b2 = true := e2.out.symm.trans (by simp)
    obtain rfl : res = 5 := hr.out
    clear hr
    go_wp2
    go_ret
    exact ⟨rfl, B1.out⟩
  case false =>
  go_wp2_with fail
  refine (HK.out _).mono ?_
  rintro e w2 ⟨rfl, rfl⟩
  obtain rfl : b2 = false := e2.out.symm.trans (by simp)
  go_wp2_with fail
  refine (HD.out _).mono ?_
  rintro e w2 ⟨rfl, rfl⟩
  obtain rfl : b3 = false := e3.out.symm.trans (by simp)
  cases p20
  case true =>
    cases k1
    case true =>
      obtain rfl : b4 = true := e4.out.symm.trans (by simp)
      obtain rfl : res = 5 := hr.out
      clear hr
      go_wp2
      go_ret
      exact ⟨rfl, B1.out⟩
    case false =>
    cases k2
    case true =>
      obtain rfl : b4 = true := e4.out.symm.trans (by simp)
      obtain rfl : res = 5 := hr.out
      clear hr
      go_wp2
      go_ret
      exact ⟨rfl, B1.out⟩
    case false =>
      have hp : p21 = false := by
        rw [← o1]
        have := beq_iff_eq.1 o0
        rw [this]
        rfl
      have hq : p22 = false := by
        rw [← o2]
        have := beq_iff_eq.1 o0
        rw [this]
        rfl
      subst hp hq
      obtain rfl : b4 = false := e4.out.symm.trans (by simp)
      obtain rfl : res = 0 := hr.out
      clear hr
      go_wp2
      go_ret
      exact ⟨rfl, B1.out⟩
  case false =>
  cases p21
  case true =>
    cases k3
    case true =>
      obtain rfl : b4 = true := e4.out.symm.trans (by simp)
      obtain rfl : res = 5 := hr.out
      clear hr
      go_wp2
      go_ret
      exact ⟨rfl, B1.out⟩
    case false =>
      obtain rfl : b4 = false := e4.out.symm.trans (by simp)
      obtain rfl : res = 0 := hr.out
      clear hr
      go_wp2
      go_ret
      exact ⟨rfl, B1.out⟩
  case false =>
  cases p22
  case true =>
    cases k3
    case true =>
      obtain rfl : b4 = true := e4.out.symm.trans (by simp)
      obtain rfl : res = 5 := hr.out
      clear hr
      go_wp2
      go_ret
      exact ⟨rfl, B1.out⟩
    case false =>
      obtain rfl : b4 = false := e4.out.symm.trans (by simp)
      obtain rfl : res = 0 := hr.out
      clear hr
      go_wp2
      go_ret
      exact ⟨rfl, B1.out⟩
  case false =>
    obtain rfl : b4 = false := e4.out.symm.trans (by simp)
    obtain rfl : res = 0 := hr.out
    clear hr
    go_wp2
    go_ret
    exact ⟨rfl, B1.out⟩

set_option maxRecDepth 100000 in
set_option maxHeartbeats 2000000 in
theorem riform_p29 (i : Ins) (S : ByteArray) (za zb zc zd zk y2 p20 p21 p22 k1 k2 k3 b2 b3 b4 : Bool) (res : Int) (w : World) (ho1 : decide (i.op < 1) = false) (ho2 : decide (38 < i.op) = false)
    (HH : Hid (∀ w', Calls Tryd.prog 23 #[.int .i64 i.op] w' fun e w'' => e = .returned (.string S) ∧ w' = w''))
    (HA : Hid (∀ w', Calls Tryd.prog 24 #[.string S, .int .u8 65] w' fun e w'' => e = .returned (.bool true) ∧ w' = w''))
    (HB : Hid (∀ w', Calls Tryd.prog 24 #[.string S, .int .u8 66] w' fun e w'' => e = .returned (.bool false) ∧ w' = w''))
    (HC : Hid (∀ w', Calls Tryd.prog 24 #[.string S, .int .u8 67] w' fun e w'' => e = .returned (.bool true) ∧ w' = w''))
    (HD : Hid (∀ w', Calls Tryd.prog 24 #[.string S, .int .u8 68] w' fun e w'' => e = .returned (.bool true) ∧ w' = w''))
    (HK : Hid (∀ w', Calls Tryd.prog 24 #[.string S, .int .u8 75] w' fun e w'' => e = .returned (.bool true) ∧ w' = w''))
    (f0 : decide (i.a < 0) = false) (f1 : decide (7 < i.a) = false) (f2 : decide (i.b < 0) = false) (f3 : decide (7 < i.b) = false) (f4 : decide (i.c < 0) = false) (f5 : decide (7 < i.c) = false) (f6 : decide (i.d < 0) = false) (f7 : decide (2 < i.d) = false)
    (qa : (i.a != 0) = za) (qb : (i.b != 0) = zb) (qc : (i.c != 0) = zc) (qd : (i.d != 0) = zd) (qk : ((i.k : Int) != 0) = zk) (q2 : (i.d != 2) = y2)
    (o0 : (i.op == 20) = p20) (o1 : (i.op == 21) = p21) (o2 : (i.op == 22) = p22) (j1 : decide ((i.k : Int) < 1) = k1) (j2 : decide (1000 < (i.k : Int)) = k2) (j3 : decide (15 < (i.k : Int)) = k3)
    (e2 : Hid (((!true && za) || (!false && zb) || (!true && zc) || (!true && zd) || (!true && zk)) = b2)) (e3 : Hid ((true && y2 && zc) = b3)) (e4 : Hid (((p20 && (k1 || k2)) || ((p21 || p22) && k3)) = b4))
    (hr : Hid (res = if b2 = true then 5 else if b3 = true then 5 else if b4 = true then 5 else 0)) :
    Calls Tryd.prog 19 #[insV i] w fun r w' => r = .returned (.int .i64 res) ∧ Below w.heap.size w w' := by
  obtain ⟨w1, e0⟩ : ∃ w1, w1 = w.alloc (insO i) := ⟨_, rfl⟩
  obtain ⟨-, n1, bl⟩ := new_size e0
  obtain ⟨c0, c1, c2, c3, c4, c5⟩ := inscells n1
  have B1 := Lib.hid bl
  obtain ⟨E, hE⟩ : ∃ E, w.heap.size = E := ⟨_, rfl⟩
  rw [hE] at c0 c1 c2 c3 c4 c5
  have HE := Lib.hid hE
  clear n1 bl hE
  obtain ⟨op, a, b, c, d, k⟩ := i
  unfold insO at e0
  unfold insV at *
  simp only at *
  have hk0 : (0 : Int) ≤ k := Int.natCast_nonneg _
  go_enter Tryd.func19, Tryd.ntmps19
  go_wp2_with fail
  rw [← e0, HE.out]
  clear e0
  refine (HH.out _).mono ?_
  rintro e w2 ⟨rfl, rfl⟩
  go_wp2_with fail
  refine (HA.out _).mono ?_
  rintro e w2 ⟨rfl, rfl⟩
  go_wp2_with fail
  refine (HB.out _).mono ?_
  rintro e w2 ⟨rfl, rfl⟩
  cases zb
  case true =>
    obtain rfl : b2 = true := e2.out.symm.trans (by simp)
    obtain rfl : res = 5 := hr.out
    clear hr
    go_wp2
    go_ret
    exact ⟨rfl, B1.out⟩
  case false =>
  go_wp2_with fail
  refine (HC.out _).mono ?_
  rintro e w2 ⟨rfl, rfl⟩
  go_wp2_with fail
  refine (HD.out _).mono ?_
  rintro e w2 ⟨rfl, rfl⟩
  go_wp2_with fail
  refine (HK.out _).mono ?_
  rintro e w2 ⟨rfl, rfl⟩
  obtain rfl : b2 = false := e2.out.symm.trans (by simp)
  go_wp2_with fail
  refine (HD.out _).mono ?_
  rintro e w2 ⟨rfl, rfl⟩
  cases y2
  case true =>
    cases zc
    case true =>
      obtain rfl : b3 = true := e3.out.symm.trans (by simp)
      obtain rfl : res = 5 := hr.out
      clear hr
      go_wp2
      go_ret
      exact ⟨rfl, B1.out⟩
    case false =>
    obtain rfl : b3 = false := e3.out.symm.trans (by simp)
    cases p20
    case true =>
      cases k1
      case true =>
        obtain rfl : b4 = true := e4.out.symm.trans (by simp)
        obtain rfl : res = 5 := hr.out
        clear hr
        go_wp2
        go_ret
        exact ⟨rfl, B1.out⟩
      case false =>
      cases k2
      case true =>
        obtain rfl : b4 = true := e4.out.symm.trans (by simp)
        obtain rfl : res = 5 := hr.out
        clear hr
        go_wp2
        go_ret
        exact ⟨rfl, B1.out⟩
      case false =>
        have hp : p21 = false := by
          rw [← o1]
          have := beq_iff_eq.1 o0
          rw [this]
          rfl
        have hq : p22 = false := by
          rw [← o2]
          have := beq_iff_eq.1 o0
          rw [this]
          rfl
        subst hp hq
        obtain rfl : b4 = false := e4.out.symm.trans (by simp)
        obtain rfl : res = 0 := hr.out
        clear hr
        go_wp2
        go_ret
        exact ⟨rfl, B1.out⟩
    case false =>
    cases p21
    case true =>
      cases k3
      case true =>
        obtain rfl : b4 = true := e4.out.symm.trans (by simp)
        obtain rfl : res = 5 := hr.out
        clear hr
        go_wp2
        go_ret
        exact ⟨rfl, B1.out⟩
      case false =>
        obtain rfl : b4 = false := e4.out.symm.trans (by simp)
        obtain rfl : res = 0 := hr.out
        clear hr
        go_wp2
        go_ret
        exact ⟨rfl, B1.out⟩
    case false =>
    cases p22
    case true =>
      cases k3
      case true =>
        obtain rfl : b4 = true := e4.out.symm.trans (by simp)
        obtain rfl : res = 5 := hr.out
        clear hr
        go_wp2
        go_ret
        exact ⟨rfl, B1.out⟩
      case false =>
        obtain rfl : b4 = false := e4.out.symm.trans (by simp)
        obtain rfl : res = 0 := hr.out
        clear hr
        go_wp2
        go_ret
        exact ⟨rfl, B1.out⟩
    case false =>
      obtain rfl : b4 = false := e4.out.symm.trans (by simp)
      obtain rfl : res = 0 := hr.out
      clear hr
      go_wp2
      go_ret
      exact ⟨rfl, B1.out⟩
  case false =>
  obtain rfl : b3 = false := e3.out.symm.trans (by simp)
  cases p20
  case true =>
    cases k1
    case true =>
      obtain rfl : b4 = true := e4.out.symm.trans (by simp)
      obtain rfl : res = 5 := hr.out
      clear hr
      go_wp2
      go_ret
      exact ⟨rfl, B1.out⟩
    case false =>
    cases k2
    case true =>
      obtain rfl : b4 = true := e4.out.symm.trans (by simp)
      obtain rfl : res = 5 := hr.out
      clear hr
      go_wp2
      go_ret
      exact ⟨rfl, B1.out⟩
    case false =>
      have hp : p21 = false := by
        rw [← o1]
        have := beq_iff_eq.1 o0
        rw [this]
        rfl
      have hq : p22 = false := by
        rw [← o2]
        have := beq_iff_eq.1 o0
        rw [this]
        rfl
      subst hp hq
      obtain rfl : b4 = false := e4.out.symm.trans (by simp)
      obtain rfl : res = 0 := hr.out
      clear hr
      go_wp2
      go_ret
      exact ⟨rfl, B1.out⟩
  case false =>
  cases p21
  case true =>
    cases k3
    case true =>
      obtain rfl : b4 = true := e4.out.symm.trans (by simp)
      obtain rfl : res = 5 := hr.out
      clear hr
      go_wp2
      go_ret
      exact ⟨rfl, B1.out⟩
    case false =>
      obtain rfl : b4 = false := e4.out.symm.trans (by simp)
      obtain rfl : res = 0 := hr.out
      clear hr
      go_wp2
      go_ret
      exact ⟨rfl, B1.out⟩
  case false =>
  cases p22
  case true =>
    cases k3
    case true =>
      obtain rfl : b4 = true := e4.out.symm.trans (by simp)
      obtain rfl : res = 5 := hr.out
      clear hr
      go_wp2
      go_ret
      exact ⟨rfl, B1.out⟩
    case false =>
      obtain rfl : b4 = false := e4.out.symm.trans (by simp)
      obtain rfl : res = 0 := hr.out
      clear hr
      go_wp2
      go_ret
      exact ⟨rfl, B1.out⟩
  case false =>
    obtain rfl : b4 = false := e4.out.symm.trans (by simp)
    obtain rfl : res = 0 := hr.out
    clear hr
    go_wp2
    go_ret
    exact ⟨rfl, B1.out⟩

set_option maxRecDepth 100000 in
set_option maxHeartbeats 2000000 in
theorem riform_p31 (i : Ins) (S : ByteArray) (za zb zc zd zk y2 p20 p21 p22 k1 k2 k3 b2 b3 b4 : Bool) (res : Int) (w : World) (ho1 : decide (i.op < 1) = false) (ho2 : decide (38 < i.op) = false)
    (HH : Hid (∀ w', Calls Tryd.prog 23 #[.int .i64 i.op] w' fun e w'' => e = .returned (.string S) ∧ w' = w''))
    (HA : Hid (∀ w', Calls Tryd.prog 24 #[.string S, .int .u8 65] w' fun e w'' => e = .returned (.bool true) ∧ w' = w''))
    (HB : Hid (∀ w', Calls Tryd.prog 24 #[.string S, .int .u8 66] w' fun e w'' => e = .returned (.bool true) ∧ w' = w''))
    (HC : Hid (∀ w', Calls Tryd.prog 24 #[.string S, .int .u8 67] w' fun e w'' => e = .returned (.bool true) ∧ w' = w''))
    (HD : Hid (∀ w', Calls Tryd.prog 24 #[.string S, .int .u8 68] w' fun e w'' => e = .returned (.bool true) ∧ w' = w''))
    (HK : Hid (∀ w', Calls Tryd.prog 24 #[.string S, .int .u8 75] w' fun e w'' => e = .returned (.bool true) ∧ w' = w''))
    (f0 : decide (i.a < 0) = false) (f1 : decide (7 < i.a) = false) (f2 : decide (i.b < 0) = false) (f3 : decide (7 < i.b) = false) (f4 : decide (i.c < 0) = false) (f5 : decide (7 < i.c) = false) (f6 : decide (i.d < 0) = false) (f7 : decide (2 < i.d) = false)
    (qa : (i.a != 0) = za) (qb : (i.b != 0) = zb) (qc : (i.c != 0) = zc) (qd : (i.d != 0) = zd) (qk : ((i.k : Int) != 0) = zk) (q2 : (i.d != 2) = y2)
    (o0 : (i.op == 20) = p20) (o1 : (i.op == 21) = p21) (o2 : (i.op == 22) = p22) (j1 : decide ((i.k : Int) < 1) = k1) (j2 : decide (1000 < (i.k : Int)) = k2) (j3 : decide (15 < (i.k : Int)) = k3)
    (e2 : Hid (((!true && za) || (!true && zb) || (!true && zc) || (!true && zd) || (!true && zk)) = b2)) (e3 : Hid ((true && y2 && zc) = b3)) (e4 : Hid (((p20 && (k1 || k2)) || ((p21 || p22) && k3)) = b4))
    (hr : Hid (res = if b2 = true then 5 else if b3 = true then 5 else if b4 = true then 5 else 0)) :
    Calls Tryd.prog 19 #[insV i] w fun r w' => r = .returned (.int .i64 res) ∧ Below w.heap.size w w' := by
  obtain ⟨w1, e0⟩ : ∃ w1, w1 = w.alloc (insO i) := ⟨_, rfl⟩
  obtain ⟨-, n1, bl⟩ := new_size e0
  obtain ⟨c0, c1, c2, c3, c4, c5⟩ := inscells n1
  have B1 := Lib.hid bl
  obtain ⟨E, hE⟩ : ∃ E, w.heap.size = E := ⟨_, rfl⟩
  rw [hE] at c0 c1 c2 c3 c4 c5
  have HE := Lib.hid hE
  clear n1 bl hE
  obtain ⟨op, a, b, c, d, k⟩ := i
  unfold insO at e0
  unfold insV at *
  simp only at *
  have hk0 : (0 : Int) ≤ k := Int.natCast_nonneg _
  go_enter Tryd.func19, Tryd.ntmps19
  go_wp2_with fail
  rw [← e0, HE.out]
  clear e0
  refine (HH.out _).mono ?_
  rintro e w2 ⟨rfl, rfl⟩
  go_wp2_with fail
  refine (HA.out _).mono ?_
  rintro e w2 ⟨rfl, rfl⟩
  go_wp2_with fail
  refine (HB.out _).mono ?_
  rintro e w2 ⟨rfl, rfl⟩
  go_wp2_with fail
  refine (HC.out _).mono ?_
  rintro e w2 ⟨rfl, rfl⟩
  go_wp2_with fail
  refine (HD.out _).mono ?_
  rintro e w2 ⟨rfl, rfl⟩
  go_wp2_with fail
  refine (HK.out _).mono ?_
  rintro e w2 ⟨rfl, rfl⟩
  obtain rfl : b2 = false := e2.out.symm.trans (by simp)
  go_wp2_with fail
  refine (HD.out _).mono ?_
  rintro e w2 ⟨rfl, rfl⟩
  cases y2
  case true =>
    cases zc
    case true =>
      obtain rfl : b3 = true := e3.out.symm.trans (by simp)
      obtain rfl : res = 5 := hr.out
      clear hr
      go_wp2
      go_ret
      exact ⟨rfl, B1.out⟩
    case false =>
    obtain rfl : b3 = false := e3.out.symm.trans (by simp)
    cases p20
    case true =>
      cases k1
      case true =>
        obtain rfl : b4 = true := e4.out.symm.trans (by simp)
        obtain rfl : res = 5 := hr.out
        clear hr
        go_wp2
        go_ret
        exact ⟨rfl, B1.out⟩
      case false =>
      cases k2
      case true =>
        obtain rfl : b4 = true := e4.out.symm.trans (by simp)
        obtain rfl : res = 5 := hr.out
        clear hr
        go_wp2
        go_ret
        exact ⟨rfl, B1.out⟩
      case false =>
        have hp : p21 = false := by
          rw [← o1]
          have := beq_iff_eq.1 o0
          rw [this]
          rfl
        have hq : p22 = false := by
          rw [← o2]
          have := beq_iff_eq.1 o0
          rw [this]
          rfl
        subst hp hq
        obtain rfl : b4 = false := e4.out.symm.trans (by simp)
        obtain rfl : res = 0 := hr.out
        clear hr
        go_wp2
        go_ret
        exact ⟨rfl, B1.out⟩
    case false =>
    cases p21
    case true =>
      cases k3
      case true =>
        obtain rfl : b4 = true := e4.out.symm.trans (by simp)
        obtain rfl : res = 5 := hr.out
        clear hr
        go_wp2
        go_ret
        exact ⟨rfl, B1.out⟩
      case false =>
        obtain rfl : b4 = false := e4.out.symm.trans (by simp)
        obtain rfl : res = 0 := hr.out
        clear hr
        go_wp2
        go_ret
        exact ⟨rfl, B1.out⟩
    case false =>
    cases p22
    case true =>
      cases k3
      case true =>
        obtain rfl : b4 = true := e4.out.symm.trans (by simp)
        obtain rfl : res = 5 := hr.out
        clear hr
        go_wp2
        go_ret
        exact ⟨rfl, B1.out⟩
      case false =>
        obtain rfl : b4 = false := e4.out.symm.trans (by simp)
        obtain rfl : res = 0 := hr.out
        clear hr
        go_wp2
        go_ret
        exact ⟨rfl, B1.out⟩
    case false =>
      obtain rfl : b4 = false := e4.out.symm.trans (by simp)
      obtain rfl : res = 0 := hr.out
      clear hr
      go_wp2
      go_ret
      exact ⟨rfl, B1.out⟩
  case false =>
  obtain rfl : b3 = false := e3.out.symm.trans (by simp)
  cases p20
  case true =>
    cases k1
    case true =>
      obtain rfl : b4 = true := e4.out.symm.trans (by simp)
      obtain rfl : res = 5 := hr.out
      clear hr
      go_wp2
      go_ret
      exact ⟨rfl, B1.out⟩
    case false =>
    cases k2
    case true =>
      obtain rfl : b4 = true := e4.out.symm.trans (by simp)
      obtain rfl : res = 5 := hr.out
      clear hr
      go_wp2
      go_ret
      exact ⟨rfl, B1.out⟩
    case false =>
      have hp : p21 = false := by
        rw [← o1]
        have := beq_iff_eq.1 o0
        rw [this]
        rfl
      have hq : p22 = false := by
        rw [← o2]
        have := beq_iff_eq.1 o0
        rw [this]
        rfl
      subst hp hq
      obtain rfl : b4 = false := e4.out.symm.trans (by simp)
      obtain rfl : res = 0 := hr.out
      clear hr
      go_wp2
      go_ret
      exact ⟨rfl, B1.out⟩
  case false =>
  cases p21
  case true =>
    cases k3
    case true =>
      obtain rfl : b4 = true := e4.out.symm.trans (by simp)
      obtain rfl : res = 5 := hr.out
      clear hr
      go_wp2
      go_ret
      exact ⟨rfl, B1.out⟩
    case false =>
      obtain rfl : b4 = false := e4.out.symm.trans (by simp)
      obtain rfl : res = 0 := hr.out
      clear hr
      go_wp2
      go_ret
      exact ⟨rfl, B1.out⟩
  case false =>
  cases p22
  case true =>
    cases k3
    case true =>
      obtain rfl : b4 = true := e4.out.symm.trans (by simp)
      obtain rfl : res = 5 := hr.out
      clear hr
      go_wp2
      go_ret
      exact ⟨rfl, B1.out⟩
    case false =>
      obtain rfl : b4 = false := e4.out.symm.trans (by simp)
      obtain rfl : res = 0 := hr.out
      clear hr
      go_wp2
      go_ret
      exact ⟨rfl, B1.out⟩
  case false =>
    obtain rfl : b4 = false := e4.out.symm.trans (by simp)
    obtain rfl : res = 0 := hr.out
    clear hr
    go_wp2
    go_ret
    exact ⟨rfl, B1.out⟩

end Go.Proofs.YtoalgajbahlpjaaDoor
