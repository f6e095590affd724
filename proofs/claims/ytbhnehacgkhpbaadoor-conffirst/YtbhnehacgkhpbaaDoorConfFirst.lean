/-
  ConfFirst: for every system the statement's function answers true: what is wrong behind the place that is told plays no part (systems beyond the statement's own bound are let go by the statement itself). Conditions: none beyond the card's own: the listed package variables start as the program's text lays them, which the card ties to that text.
-/
import Derived.Test.YtbhnehacgkhpbaaDoorCfAw
import Derived.Test.YtbhnehacgkhpbaaDoorCfM
import Derived.Test.YtbhnehacgkhpbaaDoorCfG
import Derived.Test.YtbhnehacgkhpbaaDoorIsLw
import Derived.Test.YtbhnehacgkhpbaaDoorRel
import Derived.Test.YtbhnehacgkhpbaaDoorTie
import Derived.Test.YtbhnehacgkhpbaaDoorCards
import Derived.ProofKit
import Derived.OpenShut
import Derived.ShutString
import Derived.LaidMore
import Derived.Lay
import Derived.SevenTiedAt
import Derived.Stop.Joined
import Derived.Deep.DeepHandedRow
import Derived.BigRegion
import Derived.Deep.RegionWith
import Derived.Deep.DeepCutAuto
namespace Go.Proofs.YtbhnehacgkhpbaaDoor.ConfFirst
open Go.ChangeShapes Go.WideShapes Go.ChangeAt Go.RowKit
open Go.ChangeMaps (open_string shut_string)
set_option linter.unusedVariables false
set_option linter.unusedSimpArgs false

set_option maxRecDepth 100000 in
set_option maxHeartbeats 16000000 in
theorem walk_at (cx : CfgV) (z : Bool) (R1 R2 R3 R4 : Int) {w : World}
    (HA : Hid (∀ w', IsL w' → Calls Tryd.prog 8 #[] w' fun r w'' => r = .returned (.bool true) ∧ Below w'.heap.size w' w''))
    (HG : Hid (∀ w', SeenC w' cx → Calls Tryd.prog 9 #[cfV cx] w' fun r w'' => r = .returned (.bool z) ∧ Below w'.heap.size w' w''))
    (H1 : Hid (∀ w', SeenC w' cx → IsL w' → Calls Tryd.prog 10 #[cfV cx] w' fun r w'' => r = .returned (.agg #[.int .i64 R1, .int .i64 R2, .int .i64 R3, .int .i64 R4]) ∧ Below w'.heap.size w' w''))
    (HSm : Hid (z = false → Small cx))
    (hp0 : 0 ≤ R2) (hp9 : R2 ≤ 9) (HK : Hid (∀ wr y, SeenC wr y → y.c = tidyC cx.c R2 → IsL wr → Calls Tryd.prog 10 #[cfV y] wr fun r w'' => r = .returned (.agg #[.int .i64 R1, .int .i64 R2, .int .i64 R3, .int .i64 R4]) ∧ Below wr.heap.size wr w''))
    (hs : SeenC w cx) (hL : IsL w) : Calls Tryd.prog 7 #[cfV cx] w fun r w' => r = .returned (.bool true) ∧ Below w.heap.size w w' := by
  obtain ⟨w2, e1⟩ : ∃ w1, w1 = w.alloc (cfO cx) := ⟨_, rfl⟩
  obtain ⟨s1, n1, b1⟩ := new_size e1
  obtain ⟨D, hD⟩ : ∃ D, w.heap.size = D := ⟨_, rfl⟩
  rw [hD] at n1
  have N1 := Lib.hid n1
  have B2 := Lib.hid b1
  have HD := Lib.hid hD
  have S1 := Lib.hid (hs.below b1)
  have L1 := Lib.hid (hL.below b1)
  have KA : Hid (∀ w', Below w2.heap.size w2 w' → Calls Tryd.prog 8 #[] w' fun r w'' => r = .returned (.bool true) ∧ Below w'.heap.size w' w'') := Lib.hid (fun w' h => HA.out w' (L1.out.below h))
  have KG : Hid (∀ w', Below w2.heap.size w2 w' → Calls Tryd.prog 9 #[cfV cx] w' fun r w'' => r = .returned (.bool z) ∧ Below w'.heap.size w' w'') := Lib.hid (fun w' h => HG.out w' (S1.out.below h))
  have K1 : Hid (∀ w', Below w2.heap.size w2 w' → Calls Tryd.prog 10 #[cfV cx] w' fun r w'' => r = .returned (.agg #[.int .i64 R1, .int .i64 R2, .int .i64 R3, .int .i64 R4]) ∧ Below w'.heap.size w' w'') := Lib.hid (fun w' h => H1.out w' (S1.out.below h) (L1.out.below h))
  have KC : Hid (z = false → ∀ w', Below w2.heap.size w2 w' → Calls Tryd.prog 12 #[cfV cx] w' fun r w'' => ∃ y : CfgV, r = .returned (cfV y) ∧ y.c = cx.c ∧ OwnC w'' w'.heap.size y ∧ Below w'.heap.size w' w'') := Lib.hid (fun hz w' h => copy_walk cx w' (S1.out.below h) (HSm.out hz))
  clear HA HG H1 hs hL s1 n1 b1 hD HSm
  unfold cfV cfCells at KG K1 KC
  unfold cfO cfCells at e1
  unfold cfV cfCells
  have BR : Hid (Below w2.heap.size w2 w2) := Lib.hid (Below.refl _ _)
  go_enter Tryd.func7, Tryd.ntmps7
  go_upto_region 1 with fail
  rw [← e1, HD.out]
  clear e1
  go_wp2_with fail
  refine (KA.out w2 BR.out).mono ?_
  rintro r w3 ⟨rfl, h⟩
  have B3 := Lib.hid (below_on BR.out h)
  clear h
  obtain ⟨c0, c1, c2, c3, c4, c5, c6, c7, c8, c9, c10, c11⟩ := cfcells (blk_on B3.out N1.out)
  go_wp2_with fail
  refine (KG.out w3 B3.out).mono ?_
  rintro r w4 ⟨rfl, h⟩
  have B4 := Lib.hid (below_on B3.out h)
  clear h c0 c1 c2 c3 c4 c5 c6 c7 c8 c9 c10 c11 KG
  cases z
  case true =>
    clear K1 KC HK hp0 hp9
    go_wp2_with fail
    refine (KA.out w4 B4.out).mono ?_
    rintro r wz ⟨rfl, hz⟩
    have BZ := Lib.hid (below_on B2.out (below_on B4.out hz))
    clear hz
    go_wp2_with fail
    go_ret
    exact ⟨rfl, BZ.out⟩
  replace KC := Lib.hid (KC.out rfl)
  obtain ⟨c0, c1, c2, c3, c4, c5, c6, c7, c8, c9, c10, c11⟩ := cfcells (blk_on B4.out N1.out)
  go_wp2_with fail
  refine (K1.out w4 B4.out).mono ?_
  rintro r w5 ⟨rfl, h⟩
  have B5 := Lib.hid (below_on B4.out h)
  clear h c0 c1 c2 c3 c4 c5 c6 c7 c8 c9 c10 c11 K1
  obtain ⟨w6, e6⟩ : ∃ w6, w6 = w5.alloc (.cells #[.int .i64 R1, .int .i64 R2, .int .i64 R3, .int .i64 R4] 33) := ⟨_, rfl⟩
  obtain ⟨s6, n6, b6⟩ := new_size e6
  obtain ⟨E, hE⟩ : ∃ E, w5.heap.size = E := ⟨_, rfl⟩
  rw [hE] at n6
  have N6 := Lib.hid n6
  have B6 := Lib.hid (below_on B5.out b6)
  have HE := Lib.hid hE
  clear s6 n6 b6 hE
  go_upto_region 4 with fail
  rw [← e6, HE.out]
  clear e6
  obtain ⟨c0, c1, c2, c3, c4, c5, c6, c7, c8, c9, c10, c11⟩ := cfcells (blk_on B6.out N1.out)
  go_wp2_with fail
  refine (KC.out w6 B6.out).mono ?_
  rintro r w7 ⟨y, rfl, hyc, hyo, h⟩
  obtain ⟨w8, e8⟩ : ∃ w8, w8 = w7.alloc (cfO y) := ⟨_, rfl⟩
  obtain ⟨s8, n8, b8⟩ := new_size e8
  obtain ⟨G, hG⟩ : ∃ G, w7.heap.size = G := ⟨_, rfl⟩
  rw [hG] at n8
  have hEG : E ≠ G := by
    have := blk_lt (blk_on h N6.out)
    omega
  have N8 := Lib.hid n8
  have B8 := Lib.hid (below_on (below_on B6.out h) b8)
  have F8 := Lib.hid (blk_on b8 (blk_on h N6.out))
  have OY := Lib.hid (hyo.below b8)
  have YC := Lib.hid hyc
  have HG := Lib.hid hG
  have HGD := Lib.hid (show w2.heap.size ≤ G by rw [← hG]; exact (below_on B6.out h).size)
  have HEG := Lib.hid hEG
  clear h hyc hyo s8 n8 b8 hG hEG c0 c1 c2 c3 c4 c5 c6 c7 c8 c9 c10 c11 KC
  unfold cfO cfCells at e8
  go_upto_region 5 with fail
  rw [← e8, HG.out]
  clear e8
  have X9 : Hid (BoxS w8 w8 G y) := Lib.hid ⟨Only.refl _ _, N8.out⟩
  have f8 := (X9.out.on.block E (blk_lt F8.out) HEG.out).trans F8.out
  obtain ⟨g0, g1, g2, g3, -⟩ := fltcells f8
  obtain ⟨c0, c1, c2, c3, c4, c5, c6, c7, c8, c9, c10, c11⟩ := cfcells X9.out.box
  have fz := froz12 X9.out.box 9
  clear f8
  go_upto_if 18 with fail
  go_cut [] (fun wx => Hid (BoxS w8 wx G (td9 R2 y)))
  case first =>
    by_cases hp : R2 < 9
    · have Y := Lib.hid (X9.out.store (td9_at y hp))
      go_wp2_with fail
      go_meet
      exact Y
    · have Y := Lib.hid (X9.out.as (td9_not y hp))
      have dp : decide (R2 < 9) = false := by simpa using hp
      go_wp2_with fail
      go_meet
      exact Y
  case rest =>
  have X8 := hcut
  clear hcut X9 g0 g1 g2 g3 fz c0 c1 c2 c3 c4 c5 c6 c7 c8 c9 c10 c11
  have f8 := (X8.out.on.block E (blk_lt F8.out) HEG.out).trans F8.out
  obtain ⟨g0, g1, g2, g3, -⟩ := fltcells f8
  obtain ⟨c0, c1, c2, c3, c4, c5, c6, c7, c8, c9, c10, c11⟩ := cfcells X8.out.box
  have fz := froz12 X8.out.box 7
  clear f8
  go_upto_if 22 with fail
  go_cut [] (fun wx => Hid (BoxS w8 wx G (td8 R2 y)))
  case first =>
    by_cases hp : R2 < 8
    · have Y := Lib.hid (X8.out.store (td8_at y hp))
      go_wp2_with fail
      go_meet
      exact Y
    · have Y := Lib.hid (X8.out.as (td8_not y hp))
      have dp : decide (R2 < 8) = false := by simpa using hp
      go_wp2_with fail
      go_meet
      exact Y
  case rest =>
  have X7 := hcut
  clear hcut X8 g0 g1 g2 g3 fz c0 c1 c2 c3 c4 c5 c6 c7 c8 c9 c10 c11
  have f8 := (X7.out.on.block E (blk_lt F8.out) HEG.out).trans F8.out
  obtain ⟨g0, g1, g2, g3, -⟩ := fltcells f8
  obtain ⟨c0, c1, c2, c3, c4, c5, c6, c7, c8, c9, c10, c11⟩ := cfcells X7.out.box
  have fz := froz12 X7.out.box 6
  clear f8
  go_upto_if 26 with fail
  go_cut [] (fun wx => Hid (BoxS w8 wx G (td7 R2 y)))
  case first =>
    by_cases hp : R2 < 7
    · have Y := Lib.hid (X7.out.store (td7_at y hp))
      go_wp2_with fail
      go_meet
      exact Y
    · have Y := Lib.hid (X7.out.as (td7_not y hp))
      have dp : decide (R2 < 7) = false := by simpa using hp
      go_wp2_with fail
      go_meet
      exact Y
  case rest =>
  have X6 := hcut
  clear hcut X7 g0 g1 g2 g3 fz c0 c1 c2 c3 c4 c5 c6 c7 c8 c9 c10 c11
  have f8 := (X6.out.on.block E (blk_lt F8.out) HEG.out).trans F8.out
  obtain ⟨g0, g1, g2, g3, -⟩ := fltcells f8
  obtain ⟨c0, c1, c2, c3, c4, c5, c6, c7, c8, c9, c10, c11⟩ := cfcells X6.out.box
  have fz := froz12 X6.out.box 5
  clear f8
  go_upto_if 30 with fail
  go_cut [] (fun wx => Hid (BoxS w8 wx G (td6 R2 y)))
  case first =>
    by_cases hp : R2 < 6
    · have Y := Lib.hid (X6.out.store (td6_at y hp))
      go_wp2_with fail
      go_meet
      exact Y
    · have Y := Lib.hid (X6.out.as (td6_not y hp))
      have dp : decide (R2 < 6) = false := by simpa using hp
      go_wp2_with fail
      go_meet
      exact Y
  case rest =>
  have X5 := hcut
  clear hcut X6 g0 g1 g2 g3 fz c0 c1 c2 c3 c4 c5 c6 c7 c8 c9 c10 c11
  have f8 := (X5.out.on.block E (blk_lt F8.out) HEG.out).trans F8.out
  obtain ⟨g0, g1, g2, g3, -⟩ := fltcells f8
  obtain ⟨c0, c1, c2, c3, c4, c5, c6, c7, c8, c9, c10, c11⟩ := cfcells X5.out.box
  have fz := froz12 X5.out.box 4
  clear f8
  go_upto_if 34 with fail
  go_cut [] (fun wx => Hid (BoxS w8 wx G (td5 R2 y)))
  case first =>
    by_cases hp : R2 < 5
    · have Y := Lib.hid (X5.out.store (td5_at y hp))
      go_wp2_with fail
      go_meet
      exact Y
    · have Y := Lib.hid (X5.out.as (td5_not y hp))
      have dp : decide (R2 < 5) = false := by simpa using hp
      go_wp2_with fail
      go_meet
      exact Y
  case rest =>
  have X4 := hcut
  clear hcut X5 g0 g1 g2 g3 fz c0 c1 c2 c3 c4 c5 c6 c7 c8 c9 c10 c11
  have f8 := (X4.out.on.block E (blk_lt F8.out) HEG.out).trans F8.out
  obtain ⟨g0, g1, g2, g3, -⟩ := fltcells f8
  obtain ⟨c0, c1, c2, c3, c4, c5, c6, c7, c8, c9, c10, c11⟩ := cfcells X4.out.box
  have fz := froz12 X4.out.box 3
  clear f8
  go_upto_if 38 with fail
  go_cut [] (fun wx => Hid (BoxS w8 wx G (td4 R2 y)))
  case first =>
    by_cases hp : R2 < 4
    · have Y := Lib.hid (X4.out.store (td4_at y hp))
      go_wp2_with fail
      go_meet
      exact Y
    · have Y := Lib.hid (X4.out.as (td4_not y hp))
      have dp : decide (R2 < 4) = false := by simpa using hp
      go_wp2_with fail
      go_meet
      exact Y
  case rest =>
  have X3 := hcut
  clear hcut X4 g0 g1 g2 g3 fz c0 c1 c2 c3 c4 c5 c6 c7 c8 c9 c10 c11
  have f8 := (X3.out.on.block E (blk_lt F8.out) HEG.out).trans F8.out
  obtain ⟨g0, g1, g2, g3, -⟩ := fltcells f8
  obtain ⟨c0, c1, c2, c3, c4, c5, c6, c7, c8, c9, c10, c11⟩ := cfcells X3.out.box
  have fz := froz12 X3.out.box 2
  clear f8
  go_upto_if 42 with fail
  go_cut [] (fun wx => Hid (BoxS w8 wx G (td3 R2 y)))
  case first =>
    by_cases hp : R2 < 3
    · have Y := Lib.hid (X3.out.store (td3_at y hp))
      go_wp2_with fail
      go_meet
      exact Y
    · have Y := Lib.hid (X3.out.as (td3_not y hp))
      have dp : decide (R2 < 3) = false := by simpa using hp
      go_wp2_with fail
      go_meet
      exact Y
  case rest =>
  have X2 := hcut
  clear hcut X3 g0 g1 g2 g3 fz c0 c1 c2 c3 c4 c5 c6 c7 c8 c9 c10 c11
  have f8 := (X2.out.on.block E (blk_lt F8.out) HEG.out).trans F8.out
  obtain ⟨g0, g1, g2, g3, -⟩ := fltcells f8
  obtain ⟨c0, c1, c2, c3, c4, c5, c6, c7, c8, c9, c10, c11⟩ := cfcells X2.out.box
  have fz := froz12 X2.out.box 1
  clear f8
  go_upto_if 46 with fail
  go_cut [] (fun wx => Hid (BoxS w8 wx G (td2 R2 y)))
  case first =>
    by_cases hp : R2 < 2
    · have Y := Lib.hid (X2.out.store (td2_at y hp))
      go_wp2_with fail
      go_meet
      exact Y
    · have Y := Lib.hid (X2.out.as (td2_not y hp))
      have dp : decide (R2 < 2) = false := by simpa using hp
      go_wp2_with fail
      go_meet
      exact Y
  case rest =>
  have X1 := hcut
  clear hcut X2 g0 g1 g2 g3 fz c0 c1 c2 c3 c4 c5 c6 c7 c8 c9 c10 c11
  have TS := td2_seen R2 (X1.out.own OY.out ⟨_, N8.out⟩).seen
  have BW := X1.out.below B8.out HGD.out
  have f8 := (X1.out.on.block E (blk_lt F8.out) HEG.out).trans F8.out
  have KK : Hid (∀ w', Below wc.heap.size wc w' → Calls Tryd.prog 10 #[cfV (td2 R2 y)] w' fun r w'' => r = .returned (.agg #[.int .i64 R1, .int .i64 R2, .int .i64 R3, .int .i64 R4]) ∧ Below w'.heap.size w' w'') :=
    Lib.hid (fun w' h => HK.out w' (td2 R2 y) (TS.below h) (by rw [td_c R2 hp0 hp9, YC.out]) (L1.out.below (below_on BW h)))
  have BX := X1.out.box
  have NB := Lib.hid BX
  have NF := Lib.hid f8
  have BZ := Lib.hid (below_on B2.out BW)
  generalize td2 R2 y = ty at *
  unfold cfV cfCells at KK
  clear TS BW f8 BX HK YC X1 OY N8 F8 B8 HGD HEG hp0 hp9 S1 L1 KA
  go_upto_region 21 with fail
  refine wp_region_rel_end [.is (cfV ty), .is (.agg #[.int .i64 R1, .int .i64 R2, .int .i64 R3, .int .i64 R4]), .is (.agg #[.int .i64 R1, .int .i64 R2, .int .i64 R3, .int .i64 R4]), .is (.bool true), .is (.bool true)]
    (fun w' => Below wc.heap.size wc w') [(0, 48), (1, 49), (2, 50), (3, 51), (4, 2)] 5 (by kernel_rfl) (by kernel_rfl) (by kernel_rfl) (by kernel_rfl) ?hC ?hs ?hf
  case hC => exact below_drew (Below.refl _ _)
  case hs =>
    refine stepsOk_succ ?s4 (stepsOk_succ ?s3 (stepsOk_succ ?s2 (stepsOk_succ ?s1 (stepsOk_succ ?s0 (stepsOk_zero)))))
    case s0 =>
      refine stepOk0 rfl (by kernel_rfl) ?_
      rintro w' hC
      intro K hK
      obtain ⟨c0, c1, c2, c3, c4, c5, c6, c7, c8, c9, c10, c11⟩ := cfcells (blk_on hC NB.out)
      go_simp
      exact hK _ _ rfl ⟨rfl, hC, Below.refl _ _⟩
    case s1 =>
      refine stepOk1 0 48 rfl (by kernel_rfl) ?_
      rintro w' hC v1 rfl
      intro K hK
      try unfold cfV cfCells
      go_simp
      refine (KK.out w' hC).mono ?_
      rintro e w2 ⟨rfl, h1⟩
      exact hK _ _ rfl ⟨rfl, below_on hC h1, h1⟩
    case s2 =>
      refine stepOk0 rfl (by kernel_rfl) ?_
      rintro w' hC
      intro K hK
      obtain ⟨g0, g1, g2, g3, -⟩ := fltcells (blk_on hC NF.out)
      go_simp
      exact hK _ _ rfl ⟨rfl, hC, Below.refl _ _⟩
    case s3 =>
      refine stepOk2 1 49 2 50 rfl (by kernel_rfl) ?_
      rintro w' hC v1 v2 rfl rfl
      intro K hK
      go_simp
      exact hK _ _ rfl ⟨rfl, hC, Below.refl _ _⟩
    case s4 =>
      refine stepOk1 3 51 rfl (by kernel_rfl) ?_
      rintro w' hC v1 rfl
      intro K hK
      go_simp
      exact hK _ _ rfl ⟨rfl, hC, Below.refl _ _⟩
  case hf =>
    intro w' hC t hx
    have h8 : t.getD 2 undef = .bool true := hx (4, 2) (by simp)
    have H8 := Lib.hid h8
    clear h8 hx
    go_wp2_with fail
    go_ret
    exact ⟨by rw [H8.out], below_on BZ.out hC⟩

theorem walk {w : World} (cx : CfgV) (hw : SeenC w cx ∧ CfFits cx) (hL : IsL w) : Calls Tryd.prog 7 #[cfV cx] w fun r w' => r = .returned (.bool true) ∧ Below w.heap.size w w' := by
  have hk : CfK cx := ⟨hw.2.tk, hw.2.lk, hw.2.ma⟩
  have hp := checkC_part cx.c
  refine walk_at cx _ _ _ _ _ (Lib.hid fun w' h => awake12_any w' h) (Lib.hid fun w' h => great_cf_any cx w' h) (Lib.hid fun w' h h' => ccheck_any cx w' h h' hk) (Lib.hid fun h => small_of h) hp.1 hp.2 (Lib.hid fun wr y hs hc hl => ?_) hw.1 hL
  have := ccheck_any y wr hs hl (CfK.of_td hk hc)
  rw [hc, tidy_check] at this
  exact this

theorem own : ownKnob Tryd.prog.godebug = none := by kernel_rfl
theorem laidOut : laidOutB Tryd.prog = true := by kernel_rfl

set_option maxRecDepth 100000 in
theorem lifted (os : Os) (started : os.Started) (H : Type) (enc : TypeId × Value → H) :
    ReturnsInHanded {} Tryd.checked os 7 .any (fun w args => (Rows.confFirstSpec.pre enc Tryd.prog Tryd.f7 Rows.confFirstRow.domain false w args ∧ laidMetH Tryd.prog laidL w) ∧ sizedMet enc Tryd.prog Tryd.f7 (OpenSpec.ofChange Rows.confFirstSpec) false w args) (Rows.confFirstSpec.post enc Tryd.prog Tryd.f7 false true false false) := by
  refine returnsInHanded_of_row (s := OpenSpec.ofChange Rows.confFirstSpec) (F := fun _ _ _ => 0) (laid := laidL) (C := Tryd.checked) own started (by kernel_rfl) Tryd.func7
    (ChangeSpec.witness_shaped (enc := enc) (C := Tryd.checked) (os := os) (s := Rows.confFirstSpec) (X := fun w _ => laidMetH Tryd.prog laidL w) false (World.laidAll Tryd.prog os laidL) #[.agg #[.slice none 0 0, .slice none 0 0, .int .i64 0, .slice none 0 0, .slice none 0 0, .slice none 0 0, .int .i64 0, .int .u32 0, .int .u32 0, .int .i64 0, .int .u64 0, .int .u64 0]] 8 (World.laidAll_os _ _ _)
      (World.shaped_of_ZipB (by kernel_rfl) (by kernel_rfl)) (by kernel_rfl) (by kernel_rfl) (by kernel_rfl)
      (by rw [MakeChecks.laidMetH_plain _ _ _ (by kernel_rfl)]; exact laidMet_laidAll _ (by kernel_rfl) (by kernel_rfl))) ?_
  intro W base args ds gs before hval0 hW hcnd _ hsz0 hL hsh _
  have hval : ∀ (j : Nat) t v, Tryd.f7.params[j]? = some t → args[j]? = some v → Value.okWide Tryd.prog W .any base t v := hval0
  have hW' := hW
  obtain ⟨p, q, hA0, hV, rfl, hfz, hnd⟩ := hW
  have hA : DataW.TrodAll enc Tryd.prog W 0 (fun _ => true) true Tryd.f7.params.toList args.toList ds p := hA0
  rw [Tryd.params7] at hA hval
  obtain ⟨v0, vs0, d0, ds0, p0, q0, hargs, rfl, rfl, h0, r0⟩ := trodAll_cons hA
  obtain ⟨rfl, rfl, rfl⟩ := trodAll_nil r0
  obtain rfl : args = #[v0] := by cases args; simp_all
  obtain ⟨rfl, rfl⟩ := trodVars_none hV
  have k0 := h0
  have lt0 : ∀ x ∈ p0, x.block < W.heap.size := by obtain ⟨m, hm⟩ := k0; exact DataW.trod_lt m _ _ _ hm
  obtain ⟨a0, rfl, w0⟩ := open_cfg (hval 0 28 v0 rfl rfl) h0
  clear hA0 hval0
  refine (walk a0 w0 (of_laid hL hsh)).mono fun e W' ⟨he, bel⟩ => ?_
  subst he
  exact ⟨_, rfl, _, _, _, [], _, [], hW', trodAll_mk1 (shut_bool Tryd.underlying4 _), (trodAll_cons_mk (Below.trod laidOut (by kernel_rfl) (of_decide_eq_true (by kernel_rfl)) k0 bel lt0) trodAll_mk0), rfl, bel.frame _, fun h => by cases h⟩

theorem over : Rows.ConfFirstSaid :=
  OpenClaim.holds_of_wide 7 Tryd.f7 rfl rfl rfl rfl rfl rfl rfl ⟨rfl, rfl, rfl, rfl, rfl⟩ rfl rfl rfl rfl rfl (by kernel_rfl) Tryd.func7 (by kernel_rfl)
    (of_decide_eq_true (by kernel_rfl)) (by unfold Func.isWrapper; first | (rw [if_pos (by decide +kernel)]; kernel_rfl) | (rw [if_neg (by decide +kernel)]; exact ⟨rfl, rfl⟩))
    (fun os started H enc _ => lifted os started H enc)

theorem proved : Rows.ConfFirstCardSaid :=
  Claim7.holds_tied_plain_at .later [] _ true _ false over (fun _ h => by cases h) (by kernel_rfl) (fun _ h => by cases h) confFirst_row_tie rfl ⟨rfl, rfl⟩ (by kernel_rfl) rfl
    (fun f fn hf hfn => by
      obtain rfl : f = 7 := Option.some.inj ((show Tryd.prog.funcNamed "taffrail/taffraillaw12.ConfFirst" = some 7 by kernel_rfl).symm.trans hf) |>.symm
      obtain rfl : fn = Tryd.f7 := (Option.some.inj (Tryd.func7.symm.trans hfn)).symm
      refine ⟨by kernel_rfl, fun j t ht => ?_⟩
      rw [Tryd.params7] at ht
      have hm : t ∈ [28] := by simpa using Array.mem_of_getElem? ht
      have hall : ([28].all fun u => !Tryd.prog.wantsStandIn u) = true := by kernel_rfl
      exact (show Tryd.prog.wantsStandIn t = false by simpa using List.all_eq_true.1 hall t hm))
    (by kernel_rfl)
#print axioms proved

end Go.Proofs.YtbhnehacgkhpbaaDoor.ConfFirst
