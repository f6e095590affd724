/-
  The statements' own test of answers that the document fixes (awake), over this seat's translation. Conditions: the table's cells (IsL).
-/
import Derived.Test.YtgbldgoaocfljaaDoorIs2
namespace Go.Proofs.YtgbldgoaocfljaaDoor
open Go.RowKit
set_option linter.unusedVariables false
set_option linter.unusedSimpArgs false

def aw10i : Ins := ⟨27, 1, 2, 3, 2, 0⟩
def aw10j : Ins := ⟨27, 1, 2, 3, 1, 0⟩

set_option maxRecDepth 100000 in
set_option maxHeartbeats 2000000 in
theorem awake10_any (w : World) (hL : IsL w) :
    Calls Tryd.prog 8 #[] w fun r w' => r = .returned (.bool true) ∧ Below w.heap.size w w' := by
  obtain ⟨w1, e1⟩ : ∃ w1, w1 = w.alloc (.cells #[.int .i64 27, .int .i64 1, .int .i64 2, .int .i64 3, .int .i64 2, .int .u32 0] 24) := ⟨_, rfl⟩
  obtain ⟨s1, n1, b1⟩ := new_size e1
  obtain ⟨w2, e2⟩ : ∃ w2, w2 = w1.alloc (.cells #[.int .i64 27, .int .i64 1, .int .i64 2, .int .i64 3, .int .i64 1, .int .u32 0] 24) := ⟨_, rfl⟩
  obtain ⟨s2, n2, b2⟩ := new_size e2
  have hI : w2.heap[w.heap.size]? = some (insO aw10i) := blk_on b2 n1
  have hJ : w2.heap[w.heap.size + 1]? = some (insO aw10j) := by rw [← s1]; exact n2
  have HF : Hid (∀ w', IsL w' → Calls Tryd.prog 9 #[.agg #[.int .i64 27, .int .i64 1, .int .i64 2, .int .i64 3, .int .i64 2, .int .u32 0]] w' fun r w'' => r = .returned (.int .i64 0) ∧ Below w'.heap.size w' w'') :=
    Lib.hid (fun w' h' => (show formI aw10i = 0 by decide +kernel) ▸ iform_any aw10i w' h')
  have HG : Hid (∀ w', IsL w' → Calls Tryd.prog 9 #[.agg #[.int .i64 27, .int .i64 1, .int .i64 2, .int .i64 3, .int .i64 1, .int .u32 0]] w' fun r w'' => r = .returned (.int .i64 5) ∧ Below w'.heap.size w' w'') :=
    Lib.hid (fun w' h' => (show formI aw10j = 5 by decide +kernel) ▸ iform_any aw10j w' h')
  have HC : Hid (∀ w', IsL w' → Calls Tryd.prog 13 #[.agg #[.int .i64 27, .int .i64 1, .int .i64 2, .int .i64 3, .int .i64 2, .int .u32 0], .int .i64 1, .bool true] w' fun r w'' => r = .returned (.int .i64 14) ∧ Below w'.heap.size w' w'') :=
    Lib.hid (fun w' h' => (show checkI aw10i 1 true = 14 by decide +kernel) ▸ icheck_any aw10i (by decide) 1 true w' h')
  have HD : Hid (∀ w', IsL w' → Calls Tryd.prog 13 #[.agg #[.int .i64 27, .int .i64 1, .int .i64 2, .int .i64 3, .int .i64 2, .int .u32 0], .int .i64 1, .bool false] w' fun r w'' => r = .returned (.int .i64 0) ∧ Below w'.heap.size w' w'') :=
    Lib.hid (fun w' h' => (show checkI aw10i 1 false = 0 by decide +kernel) ▸ icheck_any aw10i (by decide) 1 false w' h')
  have HK : Hid (∀ w', IsL w' → Calls Tryd.prog 11 #[.agg #[.int .i64 27, .int .i64 1, .int .i64 2, .int .i64 3, .int .i64 2, .int .u32 0]] w' fun r w'' => r = .returned (.int .i64 12) ∧ Below w'.heap.size w' w'') :=
    Lib.hid (fun w' h' => (show costI aw10i = 12 by decide +kernel) ▸ icost_any aw10i (by decide) w' h')
  have HN : Hid (∀ w', IsL w' → Calls Tryd.prog 20 #[.int .i64 38] w' fun r w'' => r = .returned (.string ⟨#[105, 114, 101, 116]⟩) ∧ w' = w'') :=
    Lib.hid (fun w' h' => iname_any 38 w' h')
  have HO : Hid (∀ w', IsL w' → Calls Tryd.prog 19 #[.string ⟨#[108, 111, 97, 100]⟩] w' fun r w'' => r = .returned (.int .i64 15) ∧ w' = w'') :=
    Lib.hid (fun w' h' => by
      have := iop_any ⟨#[108, 111, 97, 100]⟩ w' h'
      rw [show opOf (⟨#[108, 111, 97, 100]⟩ : ByteArray).data.toList = 15 by decide +kernel] at this
      exact this)
  have B2 := Lib.hid (below_on b1 b2)
  have L2 := Lib.hid (hL.below (below_on b1 b2))
  obtain ⟨E, hE⟩ : ∃ E, w.heap.size = E := ⟨_, rfl⟩
  obtain ⟨F, hF⟩ : ∃ F, w.heap.size + 1 = F := ⟨_, rfl⟩
  rw [hE] at hI
  rw [hF] at hJ
  have I2 := Lib.hid hI
  have J2 := Lib.hid hJ
  have QE := Lib.hid hE
  have QF := Lib.hid hF
  clear s1 n1 b1 s2 n2 b2 hL hI hJ hE hF
  go_enter Tryd.func8, Tryd.ntmps8
  go_wp2_with fail
  rw [← e1, ← e2, QF.out, QE.out]
  clear e1 e2
  refine (HF.out w2 L2.out).mono ?_
  rintro r w3 ⟨rfl, h⟩
  have B3 := Lib.hid (below_on B2.out h)
  have L3 := Lib.hid (L2.out.below h)
  have I3 := Lib.hid (blk_on h I2.out)
  have J3 := blk_on h J2.out
  obtain ⟨c0, c1, c2, c3, c4, c5⟩ := inscells J3
  simp only [aw10j, Int.ofNat_zero, Int.cast_ofNat_Int] at c0 c1 c2 c3 c4 c5
  clear h J3 B2 L2 I2 J2 HF
  go_wp2_with fail
  refine (HG.out w3 L3.out).mono ?_
  rintro r w4 ⟨rfl, h⟩
  have B4 := Lib.hid (below_on B3.out h)
  have L4 := Lib.hid (L3.out.below h)
  have i4 := blk_on h I3.out
  have I4 := Lib.hid i4
  clear c0 c1 c2 c3 c4 c5 h B3 L3 I3 HG
  obtain ⟨c0, c1, c2, c3, c4, c5⟩ := inscells i4
  simp only [aw10i, Int.ofNat_zero, Int.cast_ofNat_Int] at c0 c1 c2 c3 c4 c5
  clear i4
  go_wp2_with fail
  refine (HC.out w4 L4.out).mono ?_
  rintro r w5 ⟨rfl, h⟩
  have B5 := Lib.hid (below_on B4.out h)
  have L5 := Lib.hid (L4.out.below h)
  have i5 := blk_on h I4.out
  have I5 := Lib.hid i5
  clear c0 c1 c2 c3 c4 c5 h B4 L4 I4 HC
  obtain ⟨c0, c1, c2, c3, c4, c5⟩ := inscells i5
  simp only [aw10i, Int.ofNat_zero, Int.cast_ofNat_Int] at c0 c1 c2 c3 c4 c5
  clear i5
  go_wp2_with fail
  refine (HD.out w5 L5.out).mono ?_
  rintro r w6 ⟨rfl, h⟩
  have B6 := Lib.hid (below_on B5.out h)
  have L6 := Lib.hid (L5.out.below h)
  have i6 := blk_on h I5.out
  clear c0 c1 c2 c3 c4 c5 h B5 L5 I5 HD
  obtain ⟨c0, c1, c2, c3, c4, c5⟩ := inscells i6
  simp only [aw10i, Int.ofNat_zero, Int.cast_ofNat_Int] at c0 c1 c2 c3 c4 c5
  clear i6
  go_wp2_with fail
  refine (HK.out w6 L6.out).mono ?_
  rintro r w7 ⟨rfl, h⟩
  have B7 := Lib.hid (below_on B6.out h)
  have L7 := Lib.hid (L6.out.below h)
  clear c0 c1 c2 c3 c4 c5 h B6 L6 HK
  go_wp2_with fail
  refine (HN.out w7 L7.out).mono ?_
  rintro r w8 ⟨rfl, rfl⟩
  go_wp2_with fail
  refine (HO.out w7 L7.out).mono ?_
  rintro r w8 ⟨rfl, rfl⟩
  go_wp2
  go_ret
  exact ⟨rfl, B7.out⟩

end Go.Proofs.YtgbldgoaocfljaaDoor
