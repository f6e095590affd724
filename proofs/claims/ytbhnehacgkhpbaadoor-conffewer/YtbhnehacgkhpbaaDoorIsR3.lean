/-
  The document's own answers of layer 10 (taffrailref10): Form, Check, Cost, over this seat's translation: they are the program's. No condition.
-/
import Derived.Test.YtbhnehacgkhpbaaDoorIsR3a
import Derived.Test.YtbhnehacgkhpbaaDoorIsR3b
import Derived.Test.YtbhnehacgkhpbaaDoorIsR3c
import Derived.Deep.DeepCutAuto
namespace Go.Proofs.YtbhnehacgkhpbaaDoor
open Go.RowKit
set_option linter.unusedVariables false
set_option linter.unusedSimpArgs false

theorem hasL_short (k : Int) : (hasL k).length ≤ 5 := by
  cases h : opB k with
  | false => rw [hasL_not h]; simp
  | true =>
    obtain ⟨n, rfl, n1, n2⟩ := op_nat h
    have : ∀ i : Fin 39, (hasL (i.val : Int)).length ≤ 5 := by decide +kernel
    exact this ⟨n, by omega⟩

theorem riin_has (op : Int) (c : UInt8) (C : Int) (hC : (c.toNat : Int) = C) (q : Bool) (hq : inL (hasL op) c = q) (w : World) :
    Calls Tryd.prog 47 #[.string (bytesOf (hasL op)), .int .u8 C] w fun e w' => e = .returned (.bool q) ∧ w = w' := by
  have := riin_any (bytesOf (hasL op)) (by rw [bytesOf_size]; have := hasL_short op; omega) c w
  rw [bytesOf_data, hq, hC] at this
  exact this

theorem riform_any (i : Ins) (w : World) :
    Calls Tryd.prog 44 #[insV i] w fun r w' => r = .returned (.int .i64 (formI i)) ∧ Below w.heap.size w w' := by
  cases hk : opB i.op with
  | false =>
    rw [show formI i = 14 by simp [formI, hk]]
    exact riform_not i hk w
  | true =>
    obtain ⟨gA, gB, gC, gD, gK⟩ := hasL_is i.op
    have ho := hk
    simp only [opB, Bool.and_eq_true, decide_eq_true_eq] at ho
    have o1 : decide (i.op < 1) = false := by simp; omega
    have o2 : decide (38 < i.op) = false := by simp; omega
    have HH : Hid (∀ w', Calls Tryd.prog 46 #[.int .i64 i.op] w' fun e w'' => e = .returned (.string (bytesOf (hasL i.op))) ∧ w' = w'') := Lib.hid (fun w' => rihas_any i.op w')
    cases hb : rbad1 i with
    | true =>
      rw [show formI i = 5 by rw [← rform_is]; simp [rformI, hk, hb]]
      exact riform_bad i _ w o1 o2 HH hb
    | false =>
      have hb' := hb
      simp only [rbad1, Bool.or_eq_false_iff] at hb'
      obtain ⟨⟨⟨⟨⟨⟨⟨f0, f1⟩, f2⟩, f3⟩, f4⟩, f5⟩, f6⟩, f7⟩ := hb'
      have res : formI i = if rbad2 i (hasF 0 i.op) (hasF 1 i.op) (hasF 2 i.op) (hasF 3 i.op) (hasF 4 i.op) = true then 5 else if rbad3 i (hasF 3 i.op) = true then 5 else if rbad4 i = true then 5 else 0 := by
        rw [← rform_is]
        unfold rformI
        rw [hk, hb]
        rfl
      have IA := fun q (hq : hasF 0 i.op = q) => Lib.hid (fun w' => riin_has i.op 65 65 rfl q (gA.trans hq) w')
      have IB := fun q (hq : hasF 1 i.op = q) => Lib.hid (fun w' => riin_has i.op 66 66 rfl q (gB.trans hq) w')
      have IC := fun q (hq : hasF 2 i.op = q) => Lib.hid (fun w' => riin_has i.op 67 67 rfl q (gC.trans hq) w')
      have ID := fun q (hq : hasF 3 i.op = q) => Lib.hid (fun w' => riin_has i.op 68 68 rfl q (gD.trans hq) w')
      have IK := fun q (hq : hasF 4 i.op = q) => Lib.hid (fun w' => riin_has i.op 75 75 rfl q (gK.trans hq) w')
      obtain ⟨n, hn, n1, n2⟩ := op_nat hk
      have hF : ∀ j, hasF j i.op = hbit (ihas n) j := fun j => by rw [hn]; exact hasF_nat n1 n2
      have e4 : ((((i.op == 20) && (decide ((i.k : Int) < 1) || decide (1000 < (i.k : Int)))) || (((i.op == 21) || (i.op == 22)) && decide (15 < (i.k : Int)))) = rbad4 i) := by
        refine bool_eq ?_
        simp [rbad4] <;> omega
      have e3 : ∀ q, hasF 3 i.op = q → (q && (i.d != 2) && (i.c != 0)) = rbad3 i (hasF 3 i.op) := by
        intro q hq
        rw [hq]
        refine bool_eq ?_
        simp [rbad3]
      have e2 : ∀ qA qB qC qD qK, hasF 0 i.op = qA → hasF 1 i.op = qB → hasF 2 i.op = qC → hasF 3 i.op = qD → hasF 4 i.op = qK → ((!qA && (i.a != 0)) || (!qB && (i.b != 0)) || (!qC && (i.c != 0)) || (!qD && (i.d != 0)) || (!qK && ((i.k : Int) != 0))) = rbad2 i (hasF 0 i.op) (hasF 1 i.op) (hasF 2 i.op) (hasF 3 i.op) (hasF 4 i.op) := by
        intro qA qB qC qD qK a1 a2 a3 a4 a5
        rw [a1, a2, a3, a4, a5]
        refine bool_eq ?_
        simp [rbad2]
      have hh := ihas_is ⟨n, by omega⟩
      simp only at hh
      rcases hh with h | h | h | h | h | h | h | h | h | h | h
      all_goals
        have t0 := hF 0
        have t1 := hF 1
        have t2 := hF 2
        have t3 := hF 3
        have t4 := hF 4
        rw [h] at t0 t1 t2 t3 t4
      · exact riform_p0 i _ _ _ _ _ _ _ _ _ _ _ _ _ _ _ _ _ w o1 o2 HH (IA _ t0) (IB _ t1) (IC _ t2) (ID _ t3) (IK _ t4) f0 f1 f2 f3 f4 f5 f6 f7 rfl rfl rfl rfl rfl rfl rfl rfl rfl rfl rfl rfl (Lib.hid (e2 _ _ _ _ _ t0 t1 t2 t3 t4)) (Lib.hid (e3 _ t3)) (Lib.hid e4) (Lib.hid res)
      · exact riform_p1 i _ _ _ _ _ _ _ _ _ _ _ _ _ _ _ _ _ w o1 o2 HH (IA _ t0) (IB _ t1) (IC _ t2) (ID _ t3) (IK _ t4) f0 f1 f2 f3 f4 f5 f6 f7 rfl rfl rfl rfl rfl rfl rfl rfl rfl rfl rfl rfl (Lib.hid (e2 _ _ _ _ _ t0 t1 t2 t3 t4)) (Lib.hid (e3 _ t3)) (Lib.hid e4) (Lib.hid res)
      · exact riform_p3 i _ _ _ _ _ _ _ _ _ _ _ _ _ _ _ _ _ w o1 o2 HH (IA _ t0) (IB _ t1) (IC _ t2) (ID _ t3) (IK _ t4) f0 f1 f2 f3 f4 f5 f6 f7 rfl rfl rfl rfl rfl rfl rfl rfl rfl rfl rfl rfl (Lib.hid (e2 _ _ _ _ _ t0 t1 t2 t3 t4)) (Lib.hid (e3 _ t3)) (Lib.hid e4) (Lib.hid res)
      · exact riform_p5 i _ _ _ _ _ _ _ _ _ _ _ _ _ _ _ _ _ w o1 o2 HH (IA _ t0) (IB _ t1) (IC _ t2) (ID _ t3) (IK _ t4) f0 f1 f2 f3 f4 f5 f6 f7 rfl rfl rfl rfl rfl rfl rfl rfl rfl rfl rfl rfl (Lib.hid (e2 _ _ _ _ _ t0 t1 t2 t3 t4)) (Lib.hid (e3 _ t3)) (Lib.hid e4) (Lib.hid res)
      · exact riform_p7 i _ _ _ _ _ _ _ _ _ _ _ _ _ _ _ _ _ w o1 o2 HH (IA _ t0) (IB _ t1) (IC _ t2) (ID _ t3) (IK _ t4) f0 f1 f2 f3 f4 f5 f6 f7 rfl rfl rfl rfl rfl rfl rfl rfl rfl rfl rfl rfl (Lib.hid (e2 _ _ _ _ _ t0 t1 t2 t3 t4)) (Lib.hid (e3 _ t3)) (Lib.hid e4) (Lib.hid res)
      · exact riform_p16 i _ _ _ _ _ _ _ _ _ _ _ _ _ _ _ _ _ w o1 o2 HH (IA _ t0) (IB _ t1) (IC _ t2) (ID _ t3) (IK _ t4) f0 f1 f2 f3 f4 f5 f6 f7 rfl rfl rfl rfl rfl rfl rfl rfl rfl rfl rfl rfl (Lib.hid (e2 _ _ _ _ _ t0 t1 t2 t3 t4)) (Lib.hid (e3 _ t3)) (Lib.hid e4) (Lib.hid res)
      · exact riform_p17 i _ _ _ _ _ _ _ _ _ _ _ _ _ _ _ _ _ w o1 o2 HH (IA _ t0) (IB _ t1) (IC _ t2) (ID _ t3) (IK _ t4) f0 f1 f2 f3 f4 f5 f6 f7 rfl rfl rfl rfl rfl rfl rfl rfl rfl rfl rfl rfl (Lib.hid (e2 _ _ _ _ _ t0 t1 t2 t3 t4)) (Lib.hid (e3 _ t3)) (Lib.hid e4) (Lib.hid res)
      · exact riform_p19 i _ _ _ _ _ _ _ _ _ _ _ _ _ _ _ _ _ w o1 o2 HH (IA _ t0) (IB _ t1) (IC _ t2) (ID _ t3) (IK _ t4) f0 f1 f2 f3 f4 f5 f6 f7 rfl rfl rfl rfl rfl rfl rfl rfl rfl rfl rfl rfl (Lib.hid (e2 _ _ _ _ _ t0 t1 t2 t3 t4)) (Lib.hid (e3 _ t3)) (Lib.hid e4) (Lib.hid res)
      · exact riform_p21 i _ _ _ _ _ _ _ _ _ _ _ _ _ _ _ _ _ w o1 o2 HH (IA _ t0) (IB _ t1) (IC _ t2) (ID _ t3) (IK _ t4) f0 f1 f2 f3 f4 f5 f6 f7 rfl rfl rfl rfl rfl rfl rfl rfl rfl rfl rfl rfl (Lib.hid (e2 _ _ _ _ _ t0 t1 t2 t3 t4)) (Lib.hid (e3 _ t3)) (Lib.hid e4) (Lib.hid res)
      · exact riform_p29 i _ _ _ _ _ _ _ _ _ _ _ _ _ _ _ _ _ w o1 o2 HH (IA _ t0) (IB _ t1) (IC _ t2) (ID _ t3) (IK _ t4) f0 f1 f2 f3 f4 f5 f6 f7 rfl rfl rfl rfl rfl rfl rfl rfl rfl rfl rfl rfl (Lib.hid (e2 _ _ _ _ _ t0 t1 t2 t3 t4)) (Lib.hid (e3 _ t3)) (Lib.hid e4) (Lib.hid res)
      · exact riform_p31 i _ _ _ _ _ _ _ _ _ _ _ _ _ _ _ _ _ w o1 o2 HH (IA _ t0) (IB _ t1) (IC _ t2) (ID _ t3) (IK _ t4) f0 f1 f2 f3 f4 f5 f6 f7 rfl rfl rfl rfl rfl rfl rfl rfl rfl rfl rfl rfl (Lib.hid (e2 _ _ _ _ _ t0 t1 t2 t3 t4)) (Lib.hid (e3 _ t3)) (Lib.hid e4) (Lib.hid res)

set_option maxRecDepth 100000 in
set_option maxHeartbeats 4000000 in
theorem richeck_walk (i : Ins) (hk : i.k < 4294967296) (size : Int) (hs1 : -9223372036854775808 ≤ size) (hs2 : size ≤ 9223372036854775807) (isr : Bool) (f res : Int) (w : World) (p31 p37 p27 p28 p38 d1 p17 p19 z0 zs B1 B2 : Bool)
    (HF : Hid (∀ w', Calls Tryd.prog 44 #[insV i] w' fun e w'' => e = .returned (.int .i64 f) ∧ Below w'.heap.size w' w''))
    (h31 : decide (31 ≤ i.op) = p31) (h37 : decide (i.op ≤ 37) = p37) (h27 : (i.op == 27) = p27) (h28 : (i.op == 28) = p28) (h38 : (i.op == 38) = p38) (hd1 : (i.d != 1) = d1) (h17 : decide (17 ≤ i.op) = p17) (h19 : decide (i.op ≤ 19) = p19)
    (hz : decide (size ≤ 0) = z0) (hzs : z0 = false → decide (size ≤ (i.k : Int)) = zs)
    (e1 : Hid (((isr && p31 && p37) || (isr && (p27 || p28) && d1) || (!isr && p38)) = B1)) (e2 : Hid ((p17 && p19 && (z0 || zs)) = B2))
    (hr : Hid (res = if f ≠ 0 then f else if B1 = true then 14 else if B2 = true then 5 else 0)) :
    Calls Tryd.prog 39 #[insV i, .int .i64 size, .bool isr] w fun r w' => r = .returned (.int .i64 res) ∧ Below w.heap.size w w' := by
  obtain ⟨w1, e0⟩ : ∃ w1, w1 = w.alloc (insO i) := ⟨_, rfl⟩
  obtain ⟨-, n1, b1⟩ := new_size e0
  obtain ⟨c0, c1, c2, c3, c4, c5⟩ := inscells n1
  have Q1 := Lib.hid b1
  obtain ⟨E, hE⟩ : ∃ E, w.heap.size = E := ⟨_, rfl⟩
  rw [hE] at c0 c1 c2 c3 c4 c5 n1
  have HE := Lib.hid hE
  have N1 := Lib.hid n1
  clear n1 b1 hE
  obtain ⟨op, a, b, c, d, k⟩ := i
  unfold insO at e0
  unfold insV at *
  simp only at *
  have hk0 : (0 : Int) ≤ k := Int.natCast_nonneg _
  have hk1 : (k : Int) < 4294967296 := by omega
  clear hk
  go_enter Tryd.func39, Tryd.ntmps39
  go_wp2_with fail
  rw [← e0, HE.out]
  clear e0
  refine (HF.out _).mono ?_
  rintro e w2 ⟨rfl, h2⟩
  have Q2 := Lib.hid (below_on Q1.out h2)
  have n2 := blk_on h2 N1.out
  clear c0 c1 c2 c3 c4 c5 h2 HF Q1 N1
  obtain ⟨c0, c1, c2, c3, c4, c5⟩ := inscells n2
  simp only at c0 c1 c2 c3 c4 c5
  clear n2
  by_cases hf : f = 0
  case neg =>
    have hf' : (f != 0) = true := by simp [hf]
    obtain rfl : res = f := by rw [hr.out, if_pos hf]
    clear hr hf
    go_wp2
    go_ret
    exact ⟨rfl, Q2.out⟩
  have hr2 := Lib.hid (hr.out.trans (if_neg (fun h => h hf)))
  have HZ := Lib.hid hzs
  subst hf
  clear hr hzs
  go_upto_region 4 with fail
  go_cut [50] (fun x wx => x = .bool B1 ∧ wx = w2)
  case first =>
    clear hk0 hk1 hs1 hs2 h17 h19 hz HZ
    cases isr
    all_goals
      go_wp2_with fail
      all_goals
        go_meet
        refine ⟨congrArg Value.bool ?_, rfl⟩
        rw [← e1.out]
        go_light
        simp [*]
  case rest =>
  obtain ⟨rfl, rfl⟩ := hcut
  cases B1
  case true =>
    obtain rfl : res = 14 := hr2.out
    clear hr2
    go_wp2
    go_ret
    exact ⟨rfl, Q2.out⟩
  case false =>
  have hr3 : Hid (res = if B2 = true then 5 else 0) := hr2
  clear hr2 e1
  cases p17
  case false =>
    obtain rfl : B2 = false := e2.out.symm.trans (by simp)
    obtain rfl : res = 0 := hr3.out
    clear hr3
    go_wp2
    go_ret
    exact ⟨rfl, Q2.out⟩
  case true =>
  cases p19
  case false =>
    obtain rfl : B2 = false := e2.out.symm.trans (by simp)
    obtain rfl : res = 0 := hr3.out
    clear hr3
    go_wp2
    go_ret
    exact ⟨rfl, Q2.out⟩
  case true =>
  cases z0
  case true =>
    obtain rfl : B2 = true := e2.out.symm.trans (by simp)
    obtain rfl : res = 5 := hr3.out
    clear hr3
    go_wp2
    go_ret
    exact ⟨rfl, Q2.out⟩
  case false =>
  have hpos : (0 : Int) < size := by simp at hz; omega
  have hzs := HZ.out rfl
  cases zs
  case true =>
    obtain rfl : B2 = true := e2.out.symm.trans (by simp)
    obtain rfl : res = 5 := hr3.out
    clear hr3
    go_wp2
    go_ret
    exact ⟨rfl, Q2.out⟩
  case false =>
    obtain rfl : B2 = false := e2.out.symm.trans (by simp)
    obtain rfl : res = 0 := hr3.out
    clear hr3
    go_wp2
    go_ret
    exact ⟨rfl, Q2.out⟩

theorem richeck_any (i : Ins) (hk : i.k < 4294967296) (size : Int) (hs1 : -9223372036854775808 ≤ size) (hs2 : size ≤ 9223372036854775807) (isr : Bool) (w : World) :
    Calls Tryd.prog 39 #[insV i, .int .i64 size, .bool isr] w fun r w' => r = .returned (.int .i64 (checkI i size isr)) ∧ Below w.heap.size w w' := by
  rw [← rcheck_is]
  refine richeck_walk i hk size hs1 hs2 isr (formI i) _ w _ _ _ _ _ _ _ _ _ _ _ _ (fun w' => riform_any i w') rfl rfl rfl rfl rfl rfl rfl rfl rfl (fun _ => rfl) (Lib.hid rfl) (Lib.hid rfl) (Lib.hid ?_)
  unfold rcheckI
  have e1 : ((isr && decide (31 ≤ i.op) && decide (i.op ≤ 37)) || (isr && (decide (i.op = 27) || decide (i.op = 28)) && decide (i.d ≠ 1)) || (!isr && decide (i.op = 38))) = ((isr && decide (31 ≤ i.op) && decide (i.op ≤ 37)) || (isr && ((i.op == 27) || (i.op == 28)) && (i.d != 1)) || (!isr && (i.op == 38))) := by
    refine bool_eq ?_
    cases isr <;> simp
  rw [e1]

end Go.Proofs.YtbhnehacgkhpbaaDoor
