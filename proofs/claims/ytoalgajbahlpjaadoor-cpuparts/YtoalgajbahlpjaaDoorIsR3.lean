/-
  The document's own answers of layer 10 (taffrailref10): Form, Check, Cost, over this seat's translation: they are the program's. No condition.
-/
import Derived.Test.YtoalgajbahlpjaaDoorIsR3a
import Derived.Test.YtoalgajbahlpjaaDoorIsR3b
import Derived.Test.YtoalgajbahlpjaaDoorIsR3c
import Derived.Deep.DeepCutAuto
namespace Go.Proofs.YtoalgajbahlpjaaDoor
open Go.RowKit
set_option linter.unusedVariables false
set_option linter.unusedSimpArgs false

theorem hasL_short (k : Int) : (hasL k).length ≤ 5 := by
  cases h : opB k with
  | false => rw [hasL_not h]; simp
  | true =>
    obtain ⟨n, rfl, n1, n2⟩ := op_nat h
    have : ∀ i : Fin 39, (hasL (i.val : Int)).length ≤ 5 := by decide +kernel
    exact this ⟨n, by omega⟩

theorem riin_has (op : Int) (c : UInt8) (C : Int) (hC : (c.toNat : Int) = C) (q : Bool) (hq : inL (hasL op) c = q) (w : World) :
    Calls Tryd.prog 24 #[.string (bytesOf (hasL op)), .int .u8 C] w fun e w' => e = .returned (.bool q) ∧ w = w' := by
  have := riin_any (bytesOf (hasL op)) (by rw [bytesOf_size]; have := hasL_short op; omega) c w
  rw [bytesOf_data, hq, hC] at this
  exact this

theorem riform_any (i : Ins) (w : World) :
    Calls Tryd.prog 19 #[insV i] w fun r w' => r = .returned (.int .i64 (formI i)) ∧ Below w.heap.size w w' := by
  cases hk : opB i.op with
  | false =>
    rw [show formI i = 14 by simp [formI, hk]]
    exact riform_not i hk w
  | true =>
    obtain ⟨gA, gB, gC, gD, gK⟩ := hasL_is i.op
    have ho := hk
    simp only [opB, Bool.and_eq_true, decide_eq_true_eq] at ho
    have o1 : decide (i.op < 1) = false := by simp; omega
    have o2 : decide (38 < i.op) = false := by simp; omega
    have HH : Hid (∀ w', Calls Tryd.prog 23 #[.int .i64 i.op] w' fun e w'' => e = .returned (.string (bytesOf (hasL i.op))) ∧ w' = w'') := Lib.hid (fun w' => rihas_any i.op w')
    cases hb : rbad1 i with
    | true =>
      rw [show formI i = 5 by rw [← rform_is]; simp [rformI, hk, hb]]
      exact riform_bad i _ w o1 o2 HH hb
    | false =>
      have hb' := hb
      simp only [rbad1, Bool.or_eq_false_iff] at hb'
      obtain ⟨⟨⟨⟨⟨⟨⟨f0, f1⟩, f2⟩, f3⟩, f4⟩, f5⟩, f6⟩, f7⟩ := hb'
      have res : formI i = if rbad2 i (hasF 0 i.op) (hasF 1 i.op) (hasF 2 i.op) (hasF 3 i.op) (hasF 4 i.op) = true then 5 else if rbad3 i (hasF 3 i.op) = true then 5 else if rbad4 i = true then 5 else 0 := by
        rw [← rform_is]
        unfold rformI
        rw [hk, hb]
        rfl
      have IA := fun q (hq : hasF 0 i.op = q) => Lib.hid (fun w' => riin_has i.op 65 65 rfl q (gA.trans hq) w')
      have IB := fun q (hq : hasF 1 i.op = q) => Lib.hid (fun w' => riin_has i.op 66 66 rfl q (gB.trans hq) w')
      have IC := fun q (hq : hasF 2 i.op = q) => Lib.hid (fun w' => riin_has i.op 67 67 rfl q (gC.trans hq) w')
      have ID := fun q (hq : hasF 3 i.op = q) => Lib.hid (fun w' => riin_has i.op 68 68 rfl q (gD.trans hq) w')
      have IK := fun q (hq : hasF 4 i.op = q) => Lib.hid (fun w' => riin_has i.op 75 75 rfl q (gK.trans hq) w')
      obtain ⟨n, hn, n1, n2⟩ := op_nat hk
      have hF : ∀ j, hasF j i.op = hbit (ihas n) j := fun j => by rw [hn]; exact hasF_nat n1 n2
      have e4 : ((((i.op == 20) && (decide ((i.k : Int) < 1) || decide (1000 < (i.k : Int)))) || (((i.op == 21) || (i.op == 22)) && decide (15 < (i.k : Int)))) = rbad4 i) := by
        refine bool_eq ?_
        simp [rbad4] <;> omega
      have e3 : ∀ q, hasF 3 i.op = q → (q && (i.d != 2) && (i.c != 0)) = rbad3 i (hasF 3 i.op) := by
        intro q hq
        rw [hq]
        refine bool_eq ?_
        simp [rbad3]
      have e2 : ∀ qA qB qC qD qK, hasF 0 i.op = qA → hasF 1 i.op = qB → hasF 2 i.op = qC → hasF 3 i.op = qD → hasF 4 i.op = qK → ((!qA && (i.a != 0)) || (!qB && (i.b != 0)) || (!qC && (i.c != 0)) || (!qD && (i.d != 0)) || (!qK && ((i.k : Int) != 0))) = rbad2 i (hasF 0 i.op) (hasF 1 i.op) (hasF 2 i.op) (hasF 3 i.op) (hasF 4 i.op) := by
        intro qA qB qC qD qK a1 a2 a3 a4 a5
        rw [a1, a2, a3, a4, a5]
        refine bool_eq ?_
        simp [rbad2]
      have hh := ihas_is ⟨n, by omega⟩
      simp only at hh
      rcases hh with h | h | h | h | h | h | h | h | h | h | h
      all_goals
        have t0 := hF 0
        have t1 := hF 1
        have t2 := hF 2
        have t3 := hF 3
        have t4 := hF 4
        rw [h] at t0 t1 t2 t3 t4
      · exact riform_p0 i _ _ _ _ _ _ _ _ _ _ _ _ _ _ _ _ _ w o1 o2 HH (IA _ t0) (IB _ t1) (IC _ t2) (ID _ t3) (IK _ t4) f0 f1 f2 f3 f4 f5 f6 f7 rfl rfl rfl rfl rfl rfl rfl rfl rfl rfl rfl rfl (Lib.hid (e2 _ _ _ _ _ t0 t1 t2 t3 t4)) (Lib.hid (e3 _ t3)) (Lib.hid e4) (Lib.hid res)
      · exact riform_p1 i _ _ _ _ _ _ _ _ _ _ _ _ _ _ _ _ _ w o1 o2 HH (IA _ t0) (IB _ t1) (IC _ t2) (ID _ t3) (IK _ t4) f0 f1 f2 f3 f4 f5 f6 f7 rfl rfl rfl rfl rfl rfl rfl rfl rfl rfl rfl rfl (Lib.hid (e2 _ _ _ _ _ t0 t1 t2 t3 t4)) (Lib.hid (e3 _ t3)) (Lib.hid e4) (Lib.hid res)
      · exact riform_p3 i _ _ _ _ _ _ _ _ _ _ _ _ _ _ _ _ _ w o1 o2 HH (IA _ t0) (IB _ t1) (IC _ t2) (ID _ t3) (IK _ t4) f0 f1 f2 f3 f4 f5 f6 f7 rfl rfl rfl rfl rfl rfl rfl rfl rfl rfl rfl rfl (Lib.hid (e2 _ _ _ _ _ t0 t1 t2 t3 t4)) (Lib.hid (e3 _ t3)) (Lib.hid e4) (Lib.hid res)
      · exact riform_p5 i _ _ _ _ _ _ _ _ _ _ _ _ _ _ _ _ _ w o1 o2 HH (IA _ t0) (IB _ t1) (IC _ t2) (ID _ t3) (IK _ t4) f0 f1 f2 f3 f4 f5 f6 f7 rfl rfl rfl rfl rfl rfl rfl rfl rfl rfl rfl rfl (Lib.hid (e2 _ _ _ _ _ t0 t1 t2 t3 t4)) (Lib.hid (e3 _ t3)) (Lib.hid e4) (Lib.hid res)
      · exact riform_p7 i _ _ _ _ _ _ _ _ _ _ _ _ _ _ _ _ _ w o1 o2 HH (IA _ t0) (IB _ t1) (IC _ t2) (ID _ t3) (IK _ t4) f0 f1 f2 f3 f4 f5 f6 f7 rfl rfl rfl rfl rfl rfl rfl rfl rfl rfl rfl rfl (Lib.hid (e2 _ _ _ _ _ t0 t1 t2 t3 t4)) (Lib.hid (e3 _ t3)) (Lib.hid e4) (Lib.hid res)
      · exact riform_p16 i _ _ _ _ _ _ _ _ _ _ _ _ _ _ _ _ _ w o1 o2 HH (IA _ t0) (IB _ t1) (IC _ t2) (ID _ t3) (IK _ t4) f0 f1 f2 f3 f4 f5 f6 f7 rfl rfl rfl rfl rfl rfl rfl rfl rfl rfl rfl rfl (Lib.hid (e2 _ _ _ _ _ t0 t1 t2 t3 t4)) (Lib.hid (e3 _ t3)) (Lib.hid e4) (Lib.hid res)
      · exact riform_p17 i _ _ _ _ _ _ _ _ _ _ _ _ _ _ _ _ _ w o1 o2 HH (IA _ t0) (IB _ t1) (IC _ t2) (ID _ t3) (IK _ t4) f0 f1 f2 f3 f4 f5 f6 f7 rfl rfl rfl rfl rfl rfl rfl rfl rfl rfl rfl rfl (Lib.hid (e2 _ _ _ _ _ t0 t1 t2 t3 t4)) (Lib.hid (e3 _ t3)) (Lib.hid e4) (Lib.hid res)
      · exact riform_p19 i _ _ _ _ _ _ _ _ _ _ _ _ _ _ _ _ _ w o1 o2 HH (IA _ t0) (IB _ t1) (IC _ t2) (ID _ t3) (IK _ t4) f0 f1 f2 f3 f4 f5 f6 f7 rfl rfl rfl rfl rfl rfl rfl rfl rfl rfl rfl rfl (Lib.hid (e2 _ _ _ _ _ t0 t1 t2 t3 t4)) (Lib.hid (e3 _ t3)) (Lib.hid e4) (Lib.hid res)
      · exact riform_p21 i _ _ _ _ _ _ _ _ _ _ _ _ _ _ _ _ _ w o1 o2 HH (IA _ t0) (IB _ t1) (IC _ t2) (ID _ t3) (IK _ t4) f0 f1 f2 f3 f4 f5 f6 f7 rfl rfl rfl rfl rfl rfl rfl rfl rfl rfl rfl rfl (Lib.hid (e2 _ _ _ _ _ t0 t1 t2 t3 t4)) (Lib.hid (e3 _ t3)) (Lib.hid e4) (Lib.hid res)
      · exact riform_p29 i _ _ _ _ _ _ _ _ _ _ _ _ _ _ _ _ _ w o1 o2 HH (IA _ t0) (IB _ t1) (IC _ t2) (ID _ t3) (IK _ t4) f0 f1 f2 f3 f4 f5 f6 f7 rfl rfl rfl rfl rfl rfl rfl rfl rfl rfl rfl rfl (Lib.hid (e2 _ _ _ _ _ t0 t1 t2 t3 t4)) (Lib.hid (e3 _ t3)) (Lib.hid e4) (Lib.hid res)
      · exact riform_p31 i _ _ _ _ _ _ _ _ _ _ _ _ _ _ _ _ _ w o1 o2 HH (IA _ t0) (IB _ t1) (IC _ t2) (ID _ t3) (IK _ t4) f0 f1 f2 f3 f4 f5 f6 f7 rfl rfl rfl rfl rfl rfl rfl rfl rfl rfl rfl rfl (Lib.hid (e2 _ _ _ _ _ t0 t1 t2 t3 t4)) (Lib.hid (e3 _ t3)) (Lib.hid e4) (Lib.hid res)


end Go.Proofs.YtoalgajbahlpjaaDoor
