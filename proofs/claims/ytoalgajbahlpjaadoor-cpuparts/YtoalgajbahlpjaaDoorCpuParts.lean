/-
  CpuParts: for every context, every program and every two numbers the statement's function answers true: run by parts is run (contexts and programs beyond the statement's own bounds are let go by the statement itself). Conditions: none beyond the card's own: the listed package variables start as the program's text lays them, which the card ties to that text.
-/
import Derived.Test.YtoalgajbahlpjaaDoorCpAw
import Derived.Test.YtoalgajbahlpjaaDoorCpW
import Derived.Test.YtoalgajbahlpjaaDoorCpO
import Derived.Test.YtoalgajbahlpjaaDoorIsLw
import Derived.Test.YtoalgajbahlpjaaDoorTie
import Derived.Test.YtoalgajbahlpjaaDoorCards
import Derived.ProofKit
import Derived.OpenShut
import Derived.ShutString
import Derived.LaidMore
import Derived.Lay
import Derived.SevenTiedAt
import Derived.Stop.Joined
import Derived.Deep.DeepHandedRow
import Derived.BigRegion
import Derived.Deep.RegionWith
import Derived.Deep.DeepCutAuto
namespace Go.Proofs.YtoalgajbahlpjaaDoor.CpuParts
open Go.ChangeShapes Go.WideShapes Go.ChangeAt Go.RowKit
open Go.ChangeMaps (open_string shut_string)
set_option linter.unusedVariables false
set_option linter.unusedSimpArgs false

set_option maxRecDepth 100000 in
set_option maxHeartbeats 16000000 in
theorem walk_at (p : Int) (r0 r1 r2 r3 r4 r5 r6 r7 : Nat) (ao : Option Addr) (cap : Nat) (l : List Nat) (code : List Ins) (aoc : Option Addr) (capc : Nat) (pa pb A1 B1 A B : Int) (z : Bool) {w : World}
    (HA : Hid (∀ w', IsL w' → Calls Tryd.prog 8 #[] w' fun r w'' => r = .returned (.bool true) ∧ Below w'.heap.size w' w''))
    (HG : Hid (∀ w', SeenW w' ao cap l → Calls Tryd.prog 9 #[.agg (cx10 p r0 r1 r2 r3 r4 r5 r6 r7 (.slice ao l.length cap))] w' fun r w'' => r = .returned (.bool z) ∧ Below w'.heap.size w' w''))
    (HSm : Hid (z = false → l.length ≤ 300)) (HFit : Hid (CtxFits ⟨p, [r0, r1, r2, r3, r4, r5, r6, r7], l⟩))
    (hA1 : (if pa < 0 then 0 else pa) = A1) (hA : (if (200 : Int) < A1 then 200 else A1) = A) (hB1 : (if pb < 0 then 0 else pb) = B1) (hB : (if (200 : Int) < B1 then 200 else B1) = B) (hAr : 0 ≤ A ∧ A ≤ 200) (hBr : 0 ≤ B ∧ B ≤ 200)
    (N1 N2 K : Nat) (Y1 Y2 : Ctx) (E1 E2 : Int) (S : Int) (HS : Hid (A + B = S)) (HR1 : Hid (runE code A.toNat ⟨p, [r0, r1, r2, r3, r4, r5, r6, r7], l⟩ = (N1, Y1, E1))) (HR2 : Hid (runE code B.toNat Y1 = (N2, Y2, E2))) (HRS : Hid (runE code S.toNat ⟨p, [r0, r1, r2, r3, r4, r5, r6, r7], l⟩ = if E1 = 0 then (N1 + N2, Y2, E2) else (N1, Y1, E1)))
    (HN1 : Hid (N1 ≤ 200)) (HN2 : Hid (N2 ≤ 200)) (HK : Hid (N1 + N2 = K)) (HY1 : Hid (Y1.regs.length = 8)) (HY2 : Hid (Y2.regs.length = 8))
    (hcs : SeenI w aoc capc code) (HCF : Hid (∀ i ∈ code, InsFits i))
    (hs : SeenW w ao cap l) (hL : IsL w) : Calls Tryd.prog 5 #[.agg (cx10 p r0 r1 r2 r3 r4 r5 r6 r7 (.slice ao l.length cap)), .slice aoc code.length capc, .agg #[.int .i64 pa, .int .i64 pb]] w fun r w' => r = .returned (.bool true) ∧ Below w.heap.size w w' := by
  obtain ⟨w1, e1⟩ : ∃ w1, w1 = w.alloc (.cells (cx10 p r0 r1 r2 r3 r4 r5 r6 r7 (.slice ao l.length cap)) 26) := ⟨_, rfl⟩
  obtain ⟨s1, n1, b1⟩ := new_size e1
  obtain ⟨w2, e2⟩ : ∃ w2, w2 = w1.alloc (.cells #[.int .i64 pa, .int .i64 pb] 43) := ⟨_, rfl⟩
  obtain ⟨s2, n2, b2⟩ := new_size e2
  have n1' := blk_on b2 n1
  obtain ⟨D, hD⟩ : ∃ D, w.heap.size = D := ⟨_, rfl⟩
  obtain ⟨E, hE⟩ : ∃ E, D + 1 = E := ⟨_, rfl⟩
  rw [hD] at n1'
  rw [s1, hD, hE] at n2
  have B2 := Lib.hid (below_on b1 b2)
  have N1 := Lib.hid n1'
  have N2 := Lib.hid n2
  have HD := Lib.hid hD
  have HE := Lib.hid hE
  have HL := Lib.hid hL
  have HS0 := Lib.hid hs
  have HCS := Lib.hid hcs
  have hmx := hcs.mx
  unfold maxLen at hmx
  have HAr := Lib.hid hAr
  have HBr := Lib.hid hBr
  have KA : Hid (∀ w', Below w.heap.size w w' → Calls Tryd.prog 8 #[] w' fun r w'' => r = .returned (.bool true) ∧ Below w'.heap.size w' w'') := Lib.hid (fun w' h => HA.out w' (HL.out.below h))
  have HCB := Lib.hid (show ∀ a, aoc = some a → code ≠ [] → a.block < w.heap.size from fun a ha hm => by
    obtain ⟨b, off, e, h, -⟩ := hcs.row 0 (List.length_pos_iff.2 hm)
    rw [ha] at e
    cases e
    exact h)
  clear s1 n1 b1 s2 n2 b2 n1' hD hE hL hs HA hcs hAr hBr
  unfold cx10 at e1 HG
  unfold cx10
  go_enter Tryd.func5, Tryd.ntmps5
  go_upto_region 1 with fail
  rw [← e1, HD.out, ← e2, HE.out]
  clear e1 e2
  go_wp2_with fail
  refine (KA.out w2 B2.out).mono ?_
  rintro r w3 ⟨rfl, h⟩
  have B3 := Lib.hid (below_on B2.out h)
  have M1 := Lib.hid (blk_on h N1.out)
  have M2 := Lib.hid (blk_on h N2.out)
  clear h N1 N2
  obtain ⟨c0, c1, c2, c3, c4, c5, c6, c7, c8, c9⟩ := cells10 M1.out
  go_wp2_with fail
  refine (HG.out w3 (HS0.out.below B3.out)).mono ?_
  rintro r w4 ⟨rfl, h⟩
  have B4 := Lib.hid (below_on B3.out h)
  have P1 := Lib.hid (blk_on h M1.out)
  have P2 := Lib.hid (blk_on h M2.out)
  clear h M1 M2 c0 c1 c2 c3 c4 c5 c6 c7 c8 c9 HG
  cases z
  case true =>
    clear hA1 hA hB1 hB
    go_wp2_with fail
    refine (KA.out w4 B4.out).mono ?_
    rintro r wz ⟨rfl, h⟩
    have BZ := Lib.hid (below_on B4.out h)
    clear h
    go_wp2_with fail
    go_ret
    exact ⟨rfl, BZ.out⟩
  case false =>
  replace HSm := Lib.hid (HSm.out rfl)
  by_cases hlong : 300 < code.length
  · have hlong' : decide ((300 : Int) < (code.length : Int)) = true := by simp; omega
    clear hA1 hA hB1 hB
    go_wp2_with fail
    refine (KA.out w4 B4.out).mono ?_
    rintro r wz ⟨rfl, h⟩
    have BZ := Lib.hid (below_on B4.out h)
    clear h
    go_wp2_with fail
    go_ret
    exact ⟨rfl, BZ.out⟩
  have hshort : decide ((300 : Int) < (code.length : Int)) = false := by simp; omega
  have p0 : w4.cell? ⟨E, 0, none⟩ = some (.int .i64 pa) := by simp [World.cell?, P2.out]
  have p1 : w4.cell? ⟨E, 1, none⟩ = some (.int .i64 pb) := by simp [World.cell?, P2.out]
  go_upto_region 3 with fail
  go_region
  obtain ⟨w0, e0⟩ : ∃ w0, w0 = w4.drew := ⟨_, rfl⟩
  have B0 : Hid (Below w.heap.size w w0) := Lib.hid (by rw [e0]; exact below_drew B4.out)
  have N0 : Hid (w0.heap[D]? = some (.cells (cx10 p r0 r1 r2 r3 r4 r5 r6 r7 (.slice ao l.length cap)) 26)) := Lib.hid (by rw [e0]; exact P1.out)
  obtain ⟨DD, hDD⟩ : ∃ DD, w0.heap.size = DD := ⟨_, rfl⟩
  have HD0 := Lib.hid hDD
  have HCP : Hid (∀ u, Below w0.heap.size w0 u → Calls Tryd.prog 10 #[cyV ⟨⟨p, [r0, r1, r2, r3, r4, r5, r6, r7], l⟩, ao, cap⟩] u fun r w'' => ∃ y : CxV, r = .returned (cyV y) ∧ y.x = (⟨p, [r0, r1, r2, r3, r4, r5, r6, r7], l⟩ : Ctx) ∧ OwnY w'' u.heap.size y ∧ Below u.heap.size u w'') := Lib.hid (fun u hu =>
    (rcopy_any ⟨p, [r0, r1, r2, r3, r4, r5, r6, r7], l⟩ rfl ao cap u (HS0.out.below (below_on B0.out hu)) (by have := HSm.out; simp only; omega)).mono fun r w'' ⟨bo, bc, h1, h2, h3⟩ => ⟨⟨⟨p, [r0, r1, r2, r3, r4, r5, r6, r7], l⟩, bo, bc⟩, h1, rfl, ⟨rfl, h2⟩, h3⟩)
  rw [← e0]
  clear e0 hDD p0 p1 P1 P2 hA1 hA hB1 hB hlong hshort B4 B3 B2
  go_upto_region 4 with fail
  refine wp_region_inv (twoY DD ⟨⟨p, [r0, r1, r2, r3, r4, r5, r6, r7], l⟩, ao, cap⟩)
    (fun u => Below w0.heap.size w0 u) (StY DD) (fun _ _ _ => True) (fun l' sv u => TwoX DD ⟨p, [r0, r1, r2, r3, r4, r5, r6, r7], l⟩ (fun j => l'.getD j false) (sv 38) (sv 40) (sv 9) (sv 10) u) [(0, 37), (1, 38), (2, 39), (3, 40), (4, 9), (5, 10)] 8 (by kernel_rfl) (by kernel_rfl) (by kernel_rfl) (by kernel_rfl) ?hC ?hI ?hR ?hF ?hloc ?hs ?hf
  case hC => exact below_drew (Below.refl _ _)
  case hI => exact twoX_start DD ⟨⟨p, [r0, r1, r2, r3, r4, r5, r6, r7], l⟩, ao, cap⟩ _ _ _ _ _
  case hR => exact fun j v u u' _ hg h => twoY_step j v u u' hg h
  case hF => exact fun _ _ _ _ _ _ _ => trivial
  case hloc => exact fun _ _ _ _ _ _ _ _ => trivial
  case hs =>
    refine stepsI_succ ?s7 (stepsI_succ ?s6 (stepsI_succ ?s5 (stepsI_succ ?s4 (stepsI_succ ?s3 (stepsI_succ ?s2 (stepsI_succ ?s1 (stepsI_succ ?s0 (stepsI_zero))))))))
    case s0 =>
      refine stepI0 rfl (by kernel_rfl) ?_
      rintro w' hC sv
      intro K hK
      obtain ⟨c0, c1, c2, c3, c4, c5, c6, c7, c8, c9⟩ := cells10 (show w'.heap[D]? = some (.cells (cx10 p r0 r1 r2 r3 r4 r5 r6 r7 (.slice ao l.length cap)) 26) from blk_on hC N0.out)
      go_simp
      exact hK _ _ rfl ⟨rfl, hC, .inl (Below.refl _ _), trivial, fun l hl hn _ _ hi => hl.same (Below.refl _ _) ⟨by rw [set_at _ _ _ (by rw [hn]; decide), if_neg (by decide)], by rw [set_at _ _ _ (by rw [hn]; decide), if_neg (by decide)], by rw [set_at _ _ _ (by rw [hn]; decide), if_neg (by decide)], by rw [set_at _ _ _ (by rw [hn]; decide), if_neg (by decide)], by rw [set_at _ _ _ (by rw [hn]; decide), if_neg (by decide)], by rw [set_at _ _ _ (by rw [hn]; decide), if_neg (by decide)]⟩⟩
    case s2 =>
      refine stepI0 rfl (by kernel_rfl) ?_
      rintro w' hC sv
      intro K hK
      obtain ⟨c0, c1, c2, c3, c4, c5, c6, c7, c8, c9⟩ := cells10 (show w'.heap[D]? = some (.cells (cx10 p r0 r1 r2 r3 r4 r5 r6 r7 (.slice ao l.length cap)) 26) from blk_on hC N0.out)
      go_simp
      exact hK _ _ rfl ⟨rfl, hC, .inl (Below.refl _ _), trivial, fun l hl hn _ _ hi => hl.same (Below.refl _ _) ⟨by rw [set_at _ _ _ (by rw [hn]; decide), if_neg (by decide)], by rw [set_at _ _ _ (by rw [hn]; decide), if_neg (by decide)], by rw [set_at _ _ _ (by rw [hn]; decide), if_neg (by decide)], by rw [set_at _ _ _ (by rw [hn]; decide), if_neg (by decide)], by rw [set_at _ _ _ (by rw [hn]; decide), if_neg (by decide)], by rw [set_at _ _ _ (by rw [hn]; decide), if_neg (by decide)]⟩⟩
    case s1 =>
      refine stepI1 0 37 rfl (by kernel_rfl) ?_
      rintro w' hC sv v1 - rfl
      intro K hK
      go_simp
      refine (HCP.out w' hC).mono ?_
      rintro e w2 ⟨y, rfl, hyc, hyo, hyb⟩
      exact hK _ _ rfl ⟨⟨y, rfl, hyc, hyo.mono (by rw [← HD0.out]; exact hC.size)⟩, below_on hC hyb, .inl hyb, trivial, fun l hl hn hdn _ hi => hl.call1 hyb ⟨by rw [set_at _ _ _ (by rw [hn]; decide), if_neg (by decide)], by rw [set_at _ _ _ (by rw [hn]; decide), if_neg (by decide)], by rw [set_at _ _ _ (by rw [hn]; decide), if_neg (by decide)], by rw [set_at _ _ _ (by rw [hn]; decide), if_neg (by decide)], by rw [set_at _ _ _ (by rw [hn]; decide), if_neg (by decide)]⟩ (by
        cases hq : l.getD 6 false with
        | false => rfl
        | true =>
          have := down_of hdn 6 1 (by kernel_rfl) (by rw [getD_bool l 6 (by rw [hn]; decide) true false]; exact hq)
          rw [getD_bool l 1 (by rw [hn]; decide) false true, hi] at this
          cases this) rfl hyc hyo (by rw [← HD0.out]; exact hC.size)⟩
    case s3 =>
      refine stepI1 2 39 rfl (by kernel_rfl) ?_
      rintro w' hC sv v1 - rfl
      intro K hK
      go_simp
      refine (HCP.out w' hC).mono ?_
      rintro e w2 ⟨y, rfl, hyc, hyo, hyb⟩
      exact hK _ _ rfl ⟨⟨y, rfl, hyc, hyo.mono (by rw [← HD0.out]; exact hC.size)⟩, below_on hC hyb, .inl hyb, trivial, fun l hl hn hdn _ hi => hl.call3 hyb ⟨by rw [set_at _ _ _ (by rw [hn]; decide), if_neg (by decide)], by rw [set_at _ _ _ (by rw [hn]; decide), if_neg (by decide)], by rw [set_at _ _ _ (by rw [hn]; decide), if_neg (by decide)], by rw [set_at _ _ _ (by rw [hn]; decide), if_neg (by decide)], by rw [set_at _ _ _ (by rw [hn]; decide), if_neg (by decide)]⟩ (by
        cases hq : l.getD 7 false with
        | false => rfl
        | true =>
          have := down_of hdn 7 3 (by kernel_rfl) (by rw [getD_bool l 7 (by rw [hn]; decide) true false]; exact hq)
          rw [getD_bool l 3 (by rw [hn]; decide) false true, hi] at this
          cases this) rfl hyc hyo (by rw [← HD0.out]; exact hC.size)⟩
    case s4 =>
      refine stepI0 rfl (by kernel_rfl) ?_
      rintro w' hC sv
      intro K hK
      go_simp
      obtain ⟨wn, en⟩ : ∃ wn, wn = w'.alloc (.cells cxZ 26) := ⟨_, rfl⟩
      obtain ⟨sn, nn, bn⟩ := new_size en
      unfold cxZ at en
      rw [← en]
      have hbx : FBox wn DD w'.heap.size := ⟨by rw [← HD0.out]; exact hC.size, _, rfl, nn⟩
      exact hK _ _ rfl ⟨⟨_, rfl, hbx⟩, below_on hC bn, .inl bn, trivial, fun l hl hn hdn _ hi => hl.new4 bn ⟨by rw [set_at _ _ _ (by rw [hn]; decide), if_neg (by decide)], by rw [set_at _ _ _ (by rw [hn]; decide), if_neg (by decide)], by rw [set_at _ _ _ (by rw [hn]; decide), if_neg (by decide)], by rw [set_at _ _ _ (by rw [hn]; decide), if_neg (by decide)], by rw [set_at _ _ _ (by rw [hn]; decide), if_neg (by decide)]⟩ (by
        cases hq : l.getD 6 false with
        | false => rfl
        | true =>
          have := down_of hdn 6 4 (by kernel_rfl) (by rw [getD_bool l 6 (by rw [hn]; decide) true false]; exact hq)
          rw [getD_bool l 4 (by rw [hn]; decide) false true, hi] at this
          cases this) hbx⟩
    case s5 =>
      refine stepI0 rfl (by kernel_rfl) ?_
      rintro w' hC sv
      intro K hK
      go_simp
      obtain ⟨wn, en⟩ : ∃ wn, wn = w'.alloc (.cells cxZ 26) := ⟨_, rfl⟩
      obtain ⟨sn, nn, bn⟩ := new_size en
      unfold cxZ at en
      rw [← en]
      have hbx : FBox wn DD w'.heap.size := ⟨by rw [← HD0.out]; exact hC.size, _, rfl, nn⟩
      exact hK _ _ rfl ⟨⟨_, rfl, hbx⟩, below_on hC bn, .inl bn, trivial, fun l hl hn hdn _ hi => hl.new5 bn ⟨by rw [set_at _ _ _ (by rw [hn]; decide), if_neg (by decide)], by rw [set_at _ _ _ (by rw [hn]; decide), if_neg (by decide)], by rw [set_at _ _ _ (by rw [hn]; decide), if_neg (by decide)], by rw [set_at _ _ _ (by rw [hn]; decide), if_neg (by decide)], by rw [set_at _ _ _ (by rw [hn]; decide), if_neg (by decide)]⟩ (by
        cases hq : l.getD 7 false with
        | false => rfl
        | true =>
          have := down_of hdn 7 5 (by kernel_rfl) (by rw [getD_bool l 7 (by rw [hn]; decide) true false]; exact hq)
          rw [getD_bool l 5 (by rw [hn]; decide) false true, hi] at this
          cases this) hbx⟩
    case s6 =>
      refine stepI2 1 38 4 9 rfl (by kernel_rfl) ?_
      rintro w' hC sv v1 v2 e1 e2 ⟨y, rfl, hyc, hyo⟩ ⟨g, rfl, hbx⟩
      intro K hK
      obtain ⟨yx, yo, yc⟩ := y
      have hyc : yx = (⟨p, [r0, r1, r2, r3, r4, r5, r6, r7], l⟩ : Ctx) := hyc
      subst hyc
      obtain ⟨cs, hcs, hbb, hcell, hfz⟩ := hbx.cells
      obtain ⟨u0, b0⟩ := hcell 0 (by decide)
      have f0 := hfz 0
      obtain ⟨u1, b1⟩ := hcell 1 (by decide)
      have f1 := hfz 1
      obtain ⟨u2, b2⟩ := hcell 2 (by decide)
      have f2 := hfz 2
      obtain ⟨u3, b3⟩ := hcell 3 (by decide)
      have f3 := hfz 3
      obtain ⟨u4, b4⟩ := hcell 4 (by decide)
      have f4 := hfz 4
      obtain ⟨u5, b5⟩ := hcell 5 (by decide)
      have f5 := hfz 5
      obtain ⟨u6, b6⟩ := hcell 6 (by decide)
      have f6 := hfz 6
      obtain ⟨u7, b7⟩ := hcell 7 (by decide)
      have f7 := hfz 7
      obtain ⟨u8, b8⟩ := hcell 8 (by decide)
      have f8 := hfz 8
      obtain ⟨u9, b9⟩ := hcell 9 (by decide)
      have f9 := hfz 9
      obtain ⟨wn, en⟩ : ∃ wn, wn = cySt w' g ⟨⟨p, [r0, r1, r2, r3, r4, r5, r6, r7], l⟩, yo, yc⟩ := ⟨_, rfl⟩
      have hst : StY DD w' wn := .inr ⟨g, ⟨⟨p, [r0, r1, r2, r3, r4, r5, r6, r7], l⟩, yo, yc⟩, rfl, hbx, en⟩
      have hbw : Below w0.heap.size w0 wn := by rw [en]; exact cySt_below _ hC (by rw [HD0.out]; exact hbx.1)
      have HJ : Hid (∀ (p' q : Nat → Bool), TwoX DD ⟨p, [r0, r1, r2, r3, r4, r5, r6, r7], l⟩ p' (sv 38) (sv 40) (sv 9) (sv 10) w' → q 1 = p' 1 ∧ q 3 = p' 3 ∧ q 4 = p' 4 ∧ q 5 = p' 5 ∧ q 7 = p' 7 → p' 1 = true → p' 4 = true → TwoX DD ⟨p, [r0, r1, r2, r3, r4, r5, r6, r7], l⟩ q (sv 38) (sv 40) (sv 9) (sv 10) wn) :=
        Lib.hid (fun p' q hj hq ha hb => by rw [en]; exact TwoX.store6 (y := ⟨⟨p, [r0, r1, r2, r3, r4, r5, r6, r7], l⟩, yo, yc⟩) rfl hj hq ha hb e1.symm e2.symm hbx)
      have HST := Lib.hid hst
      have HBW := Lib.hid hbw
      replace en : wn = stN w' g 0 (cx10 p r0 r1 r2 r3 r4 r5 r6 r7 (.slice yo l.length yc)).toList := en
      simp only [stN, cx10] at en
      clear e1 e2 hst hbw hcell hfz hbb hbx hyo
      rw [show cyV ⟨⟨p, [r0, r1, r2, r3, r4, r5, r6, r7], l⟩, yo, yc⟩ = .agg (cx10 p r0 r1 r2 r3 r4 r5 r6 r7 (.slice yo l.length yc)) from rfl]
      unfold cx10
      go_simp
      rw [← en]
      exact hK _ _ rfl ⟨trivial, HBW.out, HST.out, trivial, fun l hl hn hdn hde hi => HJ.out _ _ hl ⟨by rw [set_at _ _ _ (by rw [hn]; decide), if_neg (by decide)], by rw [set_at _ _ _ (by rw [hn]; decide), if_neg (by decide)], by rw [set_at _ _ _ (by rw [hn]; decide), if_neg (by decide)], by rw [set_at _ _ _ (by rw [hn]; decide), if_neg (by decide)], by rw [set_at _ _ _ (by rw [hn]; decide), if_neg (by decide)]⟩ (deps_of hde 1 (by kernel_rfl)) (deps_of hde 4 (by kernel_rfl))⟩
    case s7 =>
      refine stepI2 3 40 5 10 rfl (by kernel_rfl) ?_
      rintro w' hC sv v1 v2 e1 e2 ⟨y, rfl, hyc, hyo⟩ ⟨g, rfl, hbx⟩
      intro K hK
      obtain ⟨yx, yo, yc⟩ := y
      have hyc : yx = (⟨p, [r0, r1, r2, r3, r4, r5, r6, r7], l⟩ : Ctx) := hyc
      subst hyc
      obtain ⟨cs, hcs, hbb, hcell, hfz⟩ := hbx.cells
      obtain ⟨u0, b0⟩ := hcell 0 (by decide)
      have f0 := hfz 0
      obtain ⟨u1, b1⟩ := hcell 1 (by decide)
      have f1 := hfz 1
      obtain ⟨u2, b2⟩ := hcell 2 (by decide)
      have f2 := hfz 2
      obtain ⟨u3, b3⟩ := hcell 3 (by decide)
      have f3 := hfz 3
      obtain ⟨u4, b4⟩ := hcell 4 (by decide)
      have f4 := hfz 4
      obtain ⟨u5, b5⟩ := hcell 5 (by decide)
      have f5 := hfz 5
      obtain ⟨u6, b6⟩ := hcell 6 (by decide)
      have f6 := hfz 6
      obtain ⟨u7, b7⟩ := hcell 7 (by decide)
      have f7 := hfz 7
      obtain ⟨u8, b8⟩ := hcell 8 (by decide)
      have f8 := hfz 8
      obtain ⟨u9, b9⟩ := hcell 9 (by decide)
      have f9 := hfz 9
      obtain ⟨wn, en⟩ : ∃ wn, wn = cySt w' g ⟨⟨p, [r0, r1, r2, r3, r4, r5, r6, r7], l⟩, yo, yc⟩ := ⟨_, rfl⟩
      have hst : StY DD w' wn := .inr ⟨g, ⟨⟨p, [r0, r1, r2, r3, r4, r5, r6, r7], l⟩, yo, yc⟩, rfl, hbx, en⟩
      have hbw : Below w0.heap.size w0 wn := by rw [en]; exact cySt_below _ hC (by rw [HD0.out]; exact hbx.1)
      have HJ : Hid (∀ (p' q : Nat → Bool), TwoX DD ⟨p, [r0, r1, r2, r3, r4, r5, r6, r7], l⟩ p' (sv 38) (sv 40) (sv 9) (sv 10) w' → q 1 = p' 1 ∧ q 3 = p' 3 ∧ q 4 = p' 4 ∧ q 5 = p' 5 ∧ q 6 = p' 6 → p' 3 = true → p' 5 = true → TwoX DD ⟨p, [r0, r1, r2, r3, r4, r5, r6, r7], l⟩ q (sv 38) (sv 40) (sv 9) (sv 10) wn) :=
        Lib.hid (fun p' q hj hq ha hb => by rw [en]; exact TwoX.store7 (y := ⟨⟨p, [r0, r1, r2, r3, r4, r5, r6, r7], l⟩, yo, yc⟩) rfl hj hq ha hb e1.symm e2.symm hbx)
      have HST := Lib.hid hst
      have HBW := Lib.hid hbw
      replace en : wn = stN w' g 0 (cx10 p r0 r1 r2 r3 r4 r5 r6 r7 (.slice yo l.length yc)).toList := en
      simp only [stN, cx10] at en
      clear e1 e2 hst hbw hcell hfz hbb hbx hyo
      rw [show cyV ⟨⟨p, [r0, r1, r2, r3, r4, r5, r6, r7], l⟩, yo, yc⟩ = .agg (cx10 p r0 r1 r2 r3 r4 r5 r6 r7 (.slice yo l.length yc)) from rfl]
      unfold cx10
      go_simp
      rw [← en]
      exact hK _ _ rfl ⟨trivial, HBW.out, HST.out, trivial, fun l hl hn hdn hde hi => HJ.out _ _ hl ⟨by rw [set_at _ _ _ (by rw [hn]; decide), if_neg (by decide)], by rw [set_at _ _ _ (by rw [hn]; decide), if_neg (by decide)], by rw [set_at _ _ _ (by rw [hn]; decide), if_neg (by decide)], by rw [set_at _ _ _ (by rw [hn]; decide), if_neg (by decide)], by rw [set_at _ _ _ (by rw [hn]; decide), if_neg (by decide)]⟩ (deps_of hde 3 (by kernel_rfl)) (deps_of hde 5 (by kernel_rfl))⟩
  case hf =>
    intro w' hC sv hx _ hI
    obtain ⟨l', hl, hn, hj⟩ := hI
    obtain ⟨y1, y2, g, h, eg, eh, hc1, ho1, hc2, ho2, hap, hgD, hhD, hgh, hg1, hg2⟩ := hj.done hl hn
    simp only [putAll, List.foldl_cons, List.foldl_nil, eg, eh, Act.put, List.setIfInBounds_toArray, List.set_cons_succ, List.set_cons_zero]
    clear hx hl hn hj eg eh
    obtain ⟨x1, a1, k1⟩ := y1
    obtain ⟨x2, a2, k2⟩ := y2
    have hc1 : x1 = ⟨p, [r0, r1, r2, r3, r4, r5, r6, r7], l⟩ := hc1
    have hc2 : x2 = ⟨p, [r0, r1, r2, r3, r4, r5, r6, r7], l⟩ := hc2
    subst hc1
    subst hc2
    have hDw : w.heap.size ≤ DD := by rw [← HD0.out]; exact B0.out.size
    have XA := Lib.hid (OwnY.cx (y := ⟨⟨p, [r0, r1, r2, r3, r4, r5, r6, r7], l⟩, a1, k1⟩) (ho1.mono hDw) HFit.out hg1 (Nat.le_trans hDw hgD))
    have XB := Lib.hid (OwnY.cx (y := ⟨⟨p, [r0, r1, r2, r3, r4, r5, r6, r7], l⟩, a2, k2⟩) (ho2.mono hDw) HFit.out hg2 (Nat.le_trans hDw hhD))
    have HAP := Lib.hid (show ∀ a b, a1 = some a → a2 = some b → a.block ≠ b.block from fun a b ha hb => hap a b ha hb)
    have HGH := Lib.hid hgh
    have BA := Lib.hid (below_on B0.out hC)
    simp only at XA XB
    clear hap ho1 ho2 hg1 hg2 hgD hhD hgh hC hDw
    have code_apart : Hid (∀ (G : Nat) (bo : Option Addr) (u : World) (bc : Nat) (x : Ctx), Cx u w.heap.size G bo bc x → ∀ a, aoc = some a → code ≠ [] → ¬ cxS G bo a.block) := Lib.hid (fun G bo u bc x hx a ha hm => by
      have h1 := HCB.out a ha hm
      rintro (e | ⟨q, hq, e⟩)
      · have := hx.bb; omega
      · subst hq
        have := hx.row.1; omega)
    have R1 := Lib.hid (crun_any code aoc capc A w' (HL.out.below BA.out) w.heap.size g k1 a1 _ XA.out HL.out.lt (by have := HAr.out; omega) (HCS.out.below BA.out) (code_apart.out g a1 w' k1 _ XA.out) HCF.out)
    rw [HR1.out] at R1
    go_wp2_with fail
    refine R1.out.mono ?_
    rintro r w5 ⟨rfl, hx, ho⟩
    have XA5 := Lib.hid hx
    have XB5 := Lib.hid (XB.out.beside XA.out ho (fun e => HGH.out e.symm) (fun a b ha hb e => HAP.out b a hb ha e.symm))
    have B5 := Lib.hid (BA.out.trans (XA.out.belowB ho))
    clear hx ho R1 XA XB BA
    have hrs := HRS.out
    by_cases he : E1 = 0
    · rw [if_pos he] at hrs
      have R2 := Lib.hid (crun_any code aoc capc B w5 (HL.out.below B5.out) w.heap.size g k1 a1 _ XA5.out HL.out.lt (by have := HBr.out; omega) (HCS.out.below B5.out) (code_apart.out g a1 w5 k1 _ XA5.out) HCF.out)
      rw [HR2.out] at R2
      subst he
      have HRS2 := Lib.hid hrs
      clear hrs HRS
      go_wp2_with fail
      refine R2.out.mono ?_
      rintro r w6 ⟨rfl, hx, ho⟩
      have XA6 := Lib.hid hx
      have XB6 := Lib.hid (XB5.out.beside XA5.out ho (fun e => HGH.out e.symm) (fun a b ha hb e => HAP.out b a hb ha e.symm))
      have B6 := Lib.hid (B5.out.trans (XA5.out.belowB ho))
      clear hx ho R2 XA5 XB5 B5
      have R3 := Lib.hid (crun_any code aoc capc S w6 (HL.out.below B6.out) w.heap.size h k2 a2 _ XB6.out HL.out.lt (by have := HAr.out; have := HBr.out; have := HS.out; omega) (HCS.out.below B6.out) (code_apart.out h a2 w6 k2 _ XB6.out) HCF.out)
      rw [HRS2.out, HK.out] at R3
      have hs1 : A + B = S := HS.out
      have hs2 : wrap64 S = S := by have := HAr.out; have := HBr.out; unfold wrap64; omega
      go_wp2_with fail
      refine R3.out.mono ?_
      rintro r w7 ⟨rfl, hx, ho⟩
      have XB7 := Lib.hid hx
      have XA7 := Lib.hid (XA6.out.beside XB6.out ho HGH.out (fun a b ha hb => HAP.out a b ha hb))
      have B7 := Lib.hid (B6.out.trans (XB6.out.belowB ho))
      clear hx ho R3 XA6 XB6 B6 hs1 hs2
      have hyr := HY2.out
      obtain ⟨yp, yr, ym⟩ := Y2
      obtain ⟨q0, q1, q2, q3, q4, q5, q6, q7, rfl⟩ := eight hyr
      have HSame := Lib.hid (rsame_walk yp q0 q1 q2 q3 q4 q5 q6 q7 a1 a2 k1 k2 ym w7 XA7.out.seen XB7.out.seen)
      unfold cx10 at HSame
      obtain ⟨c0, c1, c2, c3, c4, c5, c6, c7, c8, c9⟩ := cells10 (show w7.heap[g]? = some (.cells (cx10 yp q0 q1 q2 q3 q4 q5 q6 q7 (.slice a1 ym.length k1)) 26) from XA7.out.box)
      obtain ⟨d0, d1, d2, d3, d4, d5, d6, d7, d8, d9⟩ := cells10 (show w7.heap[h]? = some (.cells (cx10 yp q0 q1 q2 q3 q4 q5 q6 q7 (.slice a2 ym.length k2)) 26) from XB7.out.box)
      have hk1 : (N1 : Int) + (N2 : Int) = (K : Int) := by have := HK.out; omega
      have hk2 : wrap64 (K : Int) = (K : Int) := by have h1 := HN1.out; have h2 := HN2.out; have := HK.out; unfold wrap64; omega
      clear hyr
      go_wp2_with fail
      refine HSame.out.mono ?_
      rintro r w8 ⟨rfl, hz8⟩
      have BZ := Lib.hid (below_on B7.out hz8)
      clear hz8 c0 c1 c2 c3 c4 c5 c6 c7 c8 c9 d0 d1 d2 d3 d4 d5 d6 d7 d8 d9
      go_wp2_with fail
      go_ret
      exact ⟨rfl, BZ.out⟩
    · rw [if_neg he] at hrs
      have he' : (E1 == 0) = false := by simp [he]
      have HRS2 := Lib.hid hrs
      clear hrs HRS he
      have R3 := Lib.hid (crun_any code aoc capc S w5 (HL.out.below B5.out) w.heap.size h k2 a2 _ XB5.out HL.out.lt (by have := HAr.out; have := HBr.out; have := HS.out; omega) (HCS.out.below B5.out) (code_apart.out h a2 w5 k2 _ XB5.out) HCF.out)
      rw [HRS2.out] at R3
      have hs1 : A + B = S := HS.out
      have hs2 : wrap64 S = S := by have := HAr.out; have := HBr.out; unfold wrap64; omega
      go_wp2_with fail
      refine R3.out.mono ?_
      rintro r w7 ⟨rfl, hx, ho⟩
      have XB7 := Lib.hid hx
      have XA7 := Lib.hid (XA5.out.beside XB5.out ho HGH.out (fun a b ha hb => HAP.out a b ha hb))
      have B7 := Lib.hid (B5.out.trans (XB5.out.belowB ho))
      clear hx ho R3 XA5 XB5 B5 hs1 hs2
      have hyr := HY1.out
      obtain ⟨yp, yr, ym⟩ := Y1
      obtain ⟨q0, q1, q2, q3, q4, q5, q6, q7, rfl⟩ := eight hyr
      have HSame := Lib.hid (rsame_walk yp q0 q1 q2 q3 q4 q5 q6 q7 a1 a2 k1 k2 ym w7 XA7.out.seen XB7.out.seen)
      unfold cx10 at HSame
      obtain ⟨c0, c1, c2, c3, c4, c5, c6, c7, c8, c9⟩ := cells10 (show w7.heap[g]? = some (.cells (cx10 yp q0 q1 q2 q3 q4 q5 q6 q7 (.slice a1 ym.length k1)) 26) from XA7.out.box)
      obtain ⟨d0, d1, d2, d3, d4, d5, d6, d7, d8, d9⟩ := cells10 (show w7.heap[h]? = some (.cells (cx10 yp q0 q1 q2 q3 q4 q5 q6 q7 (.slice a2 ym.length k2)) 26) from XB7.out.box)
      have hk2 : wrap64 (N1 : Int) = (N1 : Int) := by have h1 := HN1.out; unfold wrap64; omega
      clear hyr
      go_wp2_with fail
      refine HSame.out.mono ?_
      rintro r w8 ⟨rfl, hz8⟩
      have BZ := Lib.hid (below_on B7.out hz8)
      clear hz8 c0 c1 c2 c3 c4 c5 c6 c7 c8 c9 d0 d1 d2 d3 d4 d5 d6 d7 d8 d9
      go_wp2_with fail
      go_ret
      exact ⟨rfl, BZ.out⟩

theorem walk {w : World} (x : Ctx) (ao : Option Addr) (cap : Nat) (hw : SeenW w ao cap x.mem ∧ CtxFits x) (aoc : Option Addr) (len capc : Nat) (code : List Ins) (hc : code.length = len ∧ SeenI w aoc capc code ∧ ∀ e ∈ code, InsFits e) (pa pb : Int) (hL : IsL w) : Calls Tryd.prog 5 #[cxV x (.slice ao x.mem.length cap), .slice aoc len capc, .agg #[.int .i64 pa, .int .i64 pb]] w fun r w' => r = .returned (.bool true) ∧ Below w.heap.size w w' := by
  obtain ⟨hs, hf⟩ := hw
  obtain ⟨rfl, hcs, hcf⟩ := hc
  have hG := fun w' h' => great13_any x hf.rl ao cap w' h'
  have hz : greatB x = false → x.mem.length ≤ 300 := fun h => (greatB_no h).1
  generalize greatB x = z at *
  obtain ⟨p, regs, l⟩ := x
  obtain ⟨r0, r1, r2, r3, r4, r5, r6, r7, rfl⟩ := eight hf.rl
  obtain ⟨A1, hA1⟩ : ∃ A1, (if pa < 0 then 0 else pa) = A1 := ⟨_, rfl⟩
  obtain ⟨A, hA⟩ : ∃ A, (if (200 : Int) < A1 then 200 else A1) = A := ⟨_, rfl⟩
  obtain ⟨B1, hB1⟩ : ∃ B1, (if pb < 0 then 0 else pb) = B1 := ⟨_, rfl⟩
  obtain ⟨B, hB⟩ : ∃ B, (if (200 : Int) < B1 then 200 else B1) = B := ⟨_, rfl⟩
  have hAr : 0 ≤ A ∧ A ≤ 200 := by split at hA1 <;> split at hA <;> omega
  have hBr : 0 ≤ B ∧ B ≤ 200 := by split at hB1 <;> split at hB <;> omega
  have hadd := run_add code B.toNat A.toNat ⟨p, [r0, r1, r2, r3, r4, r5, r6, r7], l⟩
  rw [show A.toNat + B.toNat = (A + B).toNat by omega] at hadd
  have n1 := run_le code A.toNat ⟨p, [r0, r1, r2, r3, r4, r5, r6, r7], l⟩
  have f1 := run_fits code hcf A.toNat _ hf
  rcases h1 : runE code A.toNat ⟨p, [r0, r1, r2, r3, r4, r5, r6, r7], l⟩ with ⟨N1, Y1, E1⟩
  rw [h1] at hadd n1 f1
  have n2 := run_le code B.toNat Y1
  have f2 := run_fits code hcf B.toNat _ f1
  simp only at hadd n1 f1 f2
  rcases h2 : runE code B.toNat Y1 with ⟨N2, Y2, E2⟩
  rw [h2] at hadd n2 f2
  simp only at hadd n2 f2
  exact walk_at p r0 r1 r2 r3 r4 r5 r6 r7 ao cap l code aoc capc pa pb A1 B1 A B z (Lib.hid fun w' h => awake13_any w' h) (Lib.hid hG) (Lib.hid hz) (Lib.hid hf) hA1 hA hB1 hB hAr hBr N1 N2 (N1 + N2) Y1 Y2 E1 E2 (A + B) (Lib.hid rfl) (Lib.hid h1) (Lib.hid h2) (Lib.hid hadd) (Lib.hid (by omega)) (Lib.hid (by omega)) (Lib.hid rfl) (Lib.hid f1.rl) (Lib.hid f2.rl) hcs (Lib.hid hcf) hs hL

theorem own : ownKnob Tryd.prog.godebug = none := by kernel_rfl
theorem laidOut : laidOutB Tryd.prog = true := by kernel_rfl

set_option maxRecDepth 100000 in
theorem lifted (os : Os) (started : os.Started) (H : Type) (enc : TypeId × Value → H) :
    ReturnsInHanded {} Tryd.checked os 5 .any (fun w args => (Rows.cpuPartsSpec.pre enc Tryd.prog Tryd.f5 Rows.cpuPartsRow.domain false w args ∧ laidMetH Tryd.prog laidL w) ∧ sizedMet enc Tryd.prog Tryd.f5 (OpenSpec.ofChange Rows.cpuPartsSpec) false w args) (Rows.cpuPartsSpec.post enc Tryd.prog Tryd.f5 false true false false) := by
  refine returnsInHanded_of_row (s := OpenSpec.ofChange Rows.cpuPartsSpec) (F := fun _ _ _ => 0) (laid := laidL) (C := Tryd.checked) own started (by kernel_rfl) Tryd.func5
    (ChangeSpec.witness_shaped (enc := enc) (C := Tryd.checked) (os := os) (s := Rows.cpuPartsSpec) (X := fun w _ => laidMetH Tryd.prog laidL w) false (World.laidAll Tryd.prog os laidL) #[.agg #[.int .i64 0, .int .u32 0, .int .u32 0, .int .u32 0, .int .u32 0, .int .u32 0, .int .u32 0, .int .u32 0, .int .u32 0, .slice none 0 0], .slice none 0 0, .agg #[.int .i64 0, .int .i64 0]] 8 (World.laidAll_os _ _ _)
      (World.shaped_of_ZipB (by kernel_rfl) (by kernel_rfl)) (by kernel_rfl) (by kernel_rfl) (by kernel_rfl)
      (by rw [MakeChecks.laidMetH_plain _ _ _ (by kernel_rfl)]; exact laidMet_laidAll _ (by kernel_rfl) (by kernel_rfl))) ?_
  intro W base args ds gs before hval0 hW hcnd _ hsz0 hL hsh _
  have hval : ∀ (j : Nat) t v, Tryd.f5.params[j]? = some t → args[j]? = some v → Value.okWide Tryd.prog W .any base t v := hval0
  have hW' := hW
  obtain ⟨p, q, hA0, hV, rfl, hfz, hnd⟩ := hW
  have hA : DataW.TrodAll enc Tryd.prog W 0 (fun _ => true) true Tryd.f5.params.toList args.toList ds p := hA0
  rw [Tryd.params5] at hA hval
  obtain ⟨v0, vs0, d0, ds0, p0, q0, hargs, rfl, rfl, h0, r0⟩ := trodAll_cons hA
  obtain ⟨v1, vs1, d1, ds1, p1, q1, rfl, rfl, rfl, h1, r1⟩ := trodAll_cons r0
  obtain ⟨v2, vs2, d2, ds2, p2, q2, rfl, rfl, rfl, h2, r2⟩ := trodAll_cons r1
  obtain ⟨rfl, rfl, rfl⟩ := trodAll_nil r2
  obtain rfl : args = #[v0, v1, v2] := by cases args; simp_all
  obtain ⟨rfl, rfl⟩ := trodVars_none hV
  have k0 := h0
  have lt0 : ∀ x ∈ p0, x.block < W.heap.size := by obtain ⟨m, hm⟩ := k0; exact DataW.trod_lt m _ _ _ hm
  have k1 := h1
  have lt1 : ∀ x ∈ p1, x.block < W.heap.size := by obtain ⟨m, hm⟩ := k1; exact DataW.trod_lt m _ _ _ hm
  have k2 := h2
  have lt2 : ∀ x ∈ p2, x.block < W.heap.size := by obtain ⟨m, hm⟩ := k2; exact DataW.trod_lt m _ _ _ hm
  obtain ⟨a0, ao0, cap0, rfl, w0⟩ := open_ctx (hval 0 26 v0 rfl rfl) h0
  obtain ⟨a1, len1, cap1, rfl⟩ := okWide_slice Tryd.underlying39 (hval 1 39 v1 rfl rfl)
  obtain ⟨z1, w1⟩ := open_inss h1
  obtain ⟨a2, b2, rfl⟩ := open_two (hval 2 43 v2 rfl rfl) h2
  clear hA0 hval0
  refine (walk a0 ao0 cap0 w0 a1 len1 cap1 z1 w1 a2 b2 (of_laid hL hsh)).mono fun e W' ⟨he, bel⟩ => ?_
  subst he
  exact ⟨_, rfl, _, _, _, [], _, [], hW', trodAll_mk1 (shut_bool Tryd.underlying4 _), (trodAll_cons_mk (Below.trod laidOut (by kernel_rfl) (of_decide_eq_true (by kernel_rfl)) k0 bel lt0) (trodAll_cons_mk (Below.trod laidOut (by kernel_rfl) (of_decide_eq_true (by kernel_rfl)) k1 bel lt1) (trodAll_cons_mk (Below.trod laidOut (by kernel_rfl) (of_decide_eq_true (by kernel_rfl)) k2 bel lt2) trodAll_mk0))), rfl, bel.frame _, fun h => by cases h⟩

theorem over : Rows.CpuPartsSaid :=
  OpenClaim.holds_of_wide 5 Tryd.f5 rfl rfl rfl rfl rfl rfl rfl ⟨rfl, rfl, rfl, rfl, rfl⟩ rfl rfl rfl rfl rfl (by kernel_rfl) Tryd.func5 (by kernel_rfl)
    (of_decide_eq_true (by kernel_rfl)) (by unfold Func.isWrapper; first | (rw [if_pos (by decide +kernel)]; kernel_rfl) | (rw [if_neg (by decide +kernel)]; exact ⟨rfl, rfl⟩))
    (fun os started H enc _ => lifted os started H enc)

theorem proved : Rows.CpuPartsCardSaid :=
  Claim7.holds_tied_plain_at .later [] _ true _ false over (fun _ h => by cases h) (by kernel_rfl) (fun _ h => by cases h) cpuParts_row_tie rfl ⟨rfl, rfl⟩ (by kernel_rfl) rfl
    (fun f fn hf hfn => by
      obtain rfl : f = 5 := Option.some.inj ((show Tryd.prog.funcNamed "taffrail/taffraillaw13.CpuParts" = some 5 by kernel_rfl).symm.trans hf) |>.symm
      obtain rfl : fn = Tryd.f5 := (Option.some.inj (Tryd.func5.symm.trans hfn)).symm
      refine ⟨by kernel_rfl, fun j t ht => ?_⟩
      rw [Tryd.params5] at ht
      have hm : t ∈ [26, 39, 43] := by simpa using Array.mem_of_getElem? ht
      have hall : ([26, 39, 43].all fun u => !Tryd.prog.wantsStandIn u) = true := by kernel_rfl
      exact (show Tryd.prog.wantsStandIn t = false by simpa using List.all_eq_true.1 hall t hm))
    (by kernel_rfl)
#print axioms proved

end Go.Proofs.YtoalgajbahlpjaaDoor.CpuParts
