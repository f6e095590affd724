/-
  ConfSame: for every two systems the statement's function answers true: two are the same just if all their fields are (systems beyond the statement's own bound are let go by the statement itself). Conditions: none beyond the card's own: the listed package variables start as the program's text lays them, which the card ties to that text.
-/
import Derived.Test.YtbhnehacgkhpbaaDoorCfAw
import Derived.Test.YtbhnehacgkhpbaaDoorCfU
import Derived.Test.YtbhnehacgkhpbaaDoorCfG
import Derived.Test.YtbhnehacgkhpbaaDoorIsLw
import Derived.Test.YtbhnehacgkhpbaaDoorRel
import Derived.Test.YtbhnehacgkhpbaaDoorTie
import Derived.Test.YtbhnehacgkhpbaaDoorCards
import Derived.ProofKit
import Derived.OpenShut
import Derived.ShutString
import Derived.LaidMore
import Derived.Lay
import Derived.SevenTiedAt
import Derived.Stop.Joined
import Derived.Deep.DeepHandedRow
import Derived.BigRegion
import Derived.Deep.RegionWith
import Derived.Deep.DeepCutAuto
namespace Go.Proofs.YtbhnehacgkhpbaaDoor.ConfSame
open Go.ChangeShapes Go.WideShapes Go.ChangeAt Go.RowKit
open Go.ChangeMaps (open_string shut_string)
set_option linter.unusedVariables false
set_option linter.unusedSimpArgs false

set_option maxRecDepth 100000 in
set_option maxHeartbeats 16000000 in
theorem walk_at (ca cb : CfgV) (za zb s : Bool) {w : World}
    (HA : Hid (∀ w', IsL w' → Calls Tryd.prog 8 #[] w' fun r w'' => r = .returned (.bool true) ∧ Below w'.heap.size w' w''))
    (HGa : Hid (∀ w', SeenC w' ca → Calls Tryd.prog 9 #[cfV ca] w' fun r w'' => r = .returned (.bool za) ∧ Below w'.heap.size w' w''))
    (HGb : Hid (∀ w', SeenC w' cb → Calls Tryd.prog 9 #[cfV cb] w' fun r w'' => r = .returned (.bool zb) ∧ Below w'.heap.size w' w''))
    (H1 : Hid (∀ w', SeenC w' ca → SeenC w' cb → Calls Tryd.prog 14 #[cfV ca, cfV cb] w' fun r w'' => r = .returned (.bool s) ∧ Below w'.heap.size w' w''))
    (H2 : Hid (∀ w', SeenC w' ca → SeenC w' cb → Calls Tryd.prog 13 #[cfV ca, cfV cb] w' fun r w'' => r = .returned (.bool s) ∧ Below w'.heap.size w' w''))
    (H3 : Hid (∀ w', SeenC w' ca → SeenC w' cb → Calls Tryd.prog 14 #[cfV cb, cfV ca] w' fun r w'' => r = .returned (.bool s) ∧ Below w'.heap.size w' w''))
    (H4 : Hid (∀ w', SeenC w' ca → Calls Tryd.prog 14 #[cfV ca, cfV ca] w' fun r w'' => r = .returned (.bool true) ∧ Below w'.heap.size w' w''))
    (hsa : SeenC w ca) (hsb : SeenC w cb) (hL : IsL w) : Calls Tryd.prog 5 #[cfV ca, cfV cb] w fun r w' => r = .returned (.bool true) ∧ Below w.heap.size w w' := by
  obtain ⟨w1, e1⟩ : ∃ w1, w1 = w.alloc (cfO ca) := ⟨_, rfl⟩
  obtain ⟨s1, n1, b1⟩ := new_size e1
  obtain ⟨w2, e2⟩ : ∃ w2, w2 = w1.alloc (cfO cb) := ⟨_, rfl⟩
  obtain ⟨s2, n2, b2⟩ := new_size e2
  have n1' := blk_on b2 n1
  obtain ⟨D, hD⟩ : ∃ D, w.heap.size = D := ⟨_, rfl⟩
  obtain ⟨E, hE⟩ : ∃ E, D + 1 = E := ⟨_, rfl⟩
  rw [hD] at n1'
  rw [s1, hD, hE] at n2
  have N1 := Lib.hid n1'
  have N2 := Lib.hid n2
  have B2 := Lib.hid (below_on b1 b2)
  have HD := Lib.hid hD
  have HE := Lib.hid hE
  have S1 := hsa.below (below_on b1 b2)
  have S2 := hsb.below (below_on b1 b2)
  have L1 := hL.below (below_on b1 b2)
  have KA : Hid (∀ w', Below w2.heap.size w2 w' → Calls Tryd.prog 8 #[] w' fun r w'' => r = .returned (.bool true) ∧ Below w'.heap.size w' w'') := Lib.hid (fun w' h => HA.out w' (L1.below h))
  have KG : Hid (∀ w', Below w2.heap.size w2 w' → Calls Tryd.prog 9 #[cfV ca] w' fun r w'' => r = .returned (.bool za) ∧ Below w'.heap.size w' w'') := Lib.hid (fun w' h => HGa.out w' (S1.below h))
  have KG' : Hid (∀ w', Below w2.heap.size w2 w' → Calls Tryd.prog 9 #[cfV cb] w' fun r w'' => r = .returned (.bool zb) ∧ Below w'.heap.size w' w'') := Lib.hid (fun w' h => HGb.out w' (S2.below h))
  have K1 : Hid (∀ w', Below w2.heap.size w2 w' → Calls Tryd.prog 14 #[cfV ca, cfV cb] w' fun r w'' => r = .returned (.bool s) ∧ Below w'.heap.size w' w'') := Lib.hid (fun w' h => H1.out w' (S1.below h) (S2.below h))
  have K2 : Hid (∀ w', Below w2.heap.size w2 w' → Calls Tryd.prog 13 #[cfV ca, cfV cb] w' fun r w'' => r = .returned (.bool s) ∧ Below w'.heap.size w' w'') := Lib.hid (fun w' h => H2.out w' (S1.below h) (S2.below h))
  have K3 : Hid (∀ w', Below w2.heap.size w2 w' → Calls Tryd.prog 14 #[cfV cb, cfV ca] w' fun r w'' => r = .returned (.bool s) ∧ Below w'.heap.size w' w'') := Lib.hid (fun w' h => H3.out w' (S1.below h) (S2.below h))
  have K4 : Hid (∀ w', Below w2.heap.size w2 w' → Calls Tryd.prog 14 #[cfV ca, cfV ca] w' fun r w'' => r = .returned (.bool true) ∧ Below w'.heap.size w' w'') := Lib.hid (fun w' h => H4.out w' (S1.below h))
  clear HA HGa HGb H1 H2 H3 H4 S1 S2 L1 hsa hsb hL s1 n1 b1 s2 n2 b2 n1' hD hE
  unfold cfV cfCells at KG KG' K1 K2 K3 K4
  unfold cfO cfCells at e1 e2
  unfold cfV cfCells
  have BR : Hid (Below w2.heap.size w2 w2) := Lib.hid (Below.refl _ _)
  go_enter Tryd.func5, Tryd.ntmps5
  go_upto_region 1 with fail
  rw [← e1, HD.out, ← e2, HE.out]
  clear e1 e2
  go_wp2_with fail
  refine (KA.out w2 BR.out).mono ?_
  rintro r w3 ⟨rfl, h⟩
  have B3 := Lib.hid (below_on BR.out h)
  clear h
  obtain ⟨c0, c1, c2, c3, c4, c5, c6, c7, c8, c9, c10, c11⟩ := cfcells (blk_on B3.out N1.out)
  go_wp2_with fail
  refine (KG.out w3 B3.out).mono ?_
  rintro r w4 ⟨rfl, h⟩
  have B4 := Lib.hid (below_on B3.out h)
  clear h c0 c1 c2 c3 c4 c5 c6 c7 c8 c9 c10 c11 KG
  cases za
  case true =>
    clear KG' K1 K2 K3 K4
    go_wp2_with fail
    refine (KA.out w4 B4.out).mono ?_
    rintro r wz ⟨rfl, hz⟩
    have BZ := Lib.hid (below_on B2.out (below_on B4.out hz))
    clear hz
    go_wp2_with fail
    go_ret
    exact ⟨rfl, BZ.out⟩
  obtain ⟨c0, c1, c2, c3, c4, c5, c6, c7, c8, c9, c10, c11⟩ := cfcells (blk_on B4.out N2.out)
  go_wp2_with fail
  refine (KG'.out w4 B4.out).mono ?_
  rintro r w5 ⟨rfl, h⟩
  have B5 := Lib.hid (below_on B4.out h)
  clear h c0 c1 c2 c3 c4 c5 c6 c7 c8 c9 c10 c11 KG'
  cases zb
  case true =>
    clear K1 K2 K3 K4
    go_wp2_with fail
    refine (KA.out w5 B5.out).mono ?_
    rintro r wz ⟨rfl, hz⟩
    have BZ := Lib.hid (below_on B2.out (below_on B5.out hz))
    clear hz
    go_wp2_with fail
    go_ret
    exact ⟨rfl, BZ.out⟩
  go_upto_region 3 with fail
  refine wp_region_rel_end [.is (cfV ca), .is (cfV cb), .is (.bool s), .is (cfV ca), .is (cfV cb), .is (.bool s), .is (.bool true), .is (.bool true), .is (cfV cb), .is (cfV ca), .is (.bool s), .is (cfV ca), .is (cfV cb), .is (.bool s), .is (.bool true), .is (.bool true), .is (.bool true), .is (cfV ca), .is (cfV ca), .is (.bool true), .is (.bool true), .is (.bool true)]
    (fun w' => Below w5.heap.size w5 w') [(0, 16), (1, 17), (2, 18), (3, 19), (4, 20), (5, 21), (6, 22), (7, 23), (8, 24), (9, 25), (10, 26), (11, 27), (12, 28), (13, 29), (14, 30), (15, 31), (16, 32), (17, 33), (18, 34), (19, 35), (20, 36), (21, 4)] 22 (by kernel_rfl) (by kernel_rfl) (by kernel_rfl) (by kernel_rfl) ?hC ?hs ?hf
  case hC => exact below_drew (Below.refl _ _)
  case hs =>
    refine stepsOk_succ ?s21 (stepsOk_succ ?s20 (stepsOk_succ ?s19 (stepsOk_succ ?s18 (stepsOk_succ ?s17 (stepsOk_succ ?s16 (stepsOk_succ ?s15 (stepsOk_succ ?s14 (stepsOk_succ ?s13 (stepsOk_succ ?s12 (stepsOk_succ ?s11 (stepsOk_succ ?s10 (stepsOk_succ ?s9 (stepsOk_succ ?s8 (stepsOk_succ ?s7 (stepsOk_succ ?s6 (stepsOk_succ ?s5 (stepsOk_succ ?s4 (stepsOk_succ ?s3 (stepsOk_succ ?s2 (stepsOk_succ ?s1 (stepsOk_succ ?s0 (stepsOk_zero))))))))))))))))))))))
    case s0 =>
      refine stepOk0 rfl (by kernel_rfl) ?_
      rintro w' hC
      intro K hK
      obtain ⟨c0, c1, c2, c3, c4, c5, c6, c7, c8, c9, c10, c11⟩ := cfcells (blk_on (below_on B5.out hC) N1.out)
      go_simp
      exact hK _ _ rfl ⟨rfl, hC, Below.refl _ _⟩
    case s1 =>
      refine stepOk0 rfl (by kernel_rfl) ?_
      rintro w' hC
      intro K hK
      obtain ⟨c0, c1, c2, c3, c4, c5, c6, c7, c8, c9, c10, c11⟩ := cfcells (blk_on (below_on B5.out hC) N2.out)
      go_simp
      exact hK _ _ rfl ⟨rfl, hC, Below.refl _ _⟩
    case s2 =>
      refine stepOk2 0 16 1 17 rfl (by kernel_rfl) ?_
      rintro w' hC v1 v2 rfl rfl
      intro K hK
      try unfold cfV cfCells
      go_simp
      refine (K1.out w' (below_on B5.out hC)).mono ?_
      rintro e w2 ⟨rfl, h1⟩
      exact hK _ _ rfl ⟨rfl, below_on hC h1, h1⟩
    case s3 =>
      refine stepOk0 rfl (by kernel_rfl) ?_
      rintro w' hC
      intro K hK
      obtain ⟨c0, c1, c2, c3, c4, c5, c6, c7, c8, c9, c10, c11⟩ := cfcells (blk_on (below_on B5.out hC) N1.out)
      go_simp
      exact hK _ _ rfl ⟨rfl, hC, Below.refl _ _⟩
    case s4 =>
      refine stepOk0 rfl (by kernel_rfl) ?_
      rintro w' hC
      intro K hK
      obtain ⟨c0, c1, c2, c3, c4, c5, c6, c7, c8, c9, c10, c11⟩ := cfcells (blk_on (below_on B5.out hC) N2.out)
      go_simp
      exact hK _ _ rfl ⟨rfl, hC, Below.refl _ _⟩
    case s5 =>
      refine stepOk2 3 19 4 20 rfl (by kernel_rfl) ?_
      rintro w' hC v1 v2 rfl rfl
      intro K hK
      try unfold cfV cfCells
      go_simp
      refine (K2.out w' (below_on B5.out hC)).mono ?_
      rintro e w2 ⟨rfl, h1⟩
      exact hK _ _ rfl ⟨rfl, below_on hC h1, h1⟩
    case s6 =>
      refine stepOk2 2 18 5 21 rfl (by kernel_rfl) ?_
      rintro w' hC v1 v2 rfl rfl
      intro K hK
      go_simp
      exact hK _ _ rfl ⟨rfl, hC, Below.refl _ _⟩
    case s7 =>
      refine stepOk1 6 22 rfl (by kernel_rfl) ?_
      rintro w' hC v1 rfl
      intro K hK
      go_simp
      exact hK _ _ rfl ⟨rfl, hC, Below.refl _ _⟩
    case s8 =>
      refine stepOk1 7 23 rfl (by kernel_rfl) ?_
      rintro w' hC v1 rfl
      intro K hK
      obtain ⟨c0, c1, c2, c3, c4, c5, c6, c7, c8, c9, c10, c11⟩ := cfcells (blk_on (below_on B5.out hC) N2.out)
      go_simp
      exact hK _ _ rfl ⟨rfl, hC, Below.refl _ _⟩
    case s9 =>
      refine stepOk1 7 23 rfl (by kernel_rfl) ?_
      rintro w' hC v1 rfl
      intro K hK
      obtain ⟨c0, c1, c2, c3, c4, c5, c6, c7, c8, c9, c10, c11⟩ := cfcells (blk_on (below_on B5.out hC) N1.out)
      go_simp
      exact hK _ _ rfl ⟨rfl, hC, Below.refl _ _⟩
    case s10 =>
      refine stepOk3 7 23 8 24 9 25 rfl (by kernel_rfl) ?_
      rintro w' hC v1 v2 v3 rfl rfl rfl
      intro K hK
      try unfold cfV cfCells
      go_simp
      refine (K3.out w' (below_on B5.out hC)).mono ?_
      rintro e w2 ⟨rfl, h1⟩
      exact hK _ _ rfl ⟨rfl, below_on hC h1, h1⟩
    case s11 =>
      refine stepOk1 7 23 rfl (by kernel_rfl) ?_
      rintro w' hC v1 rfl
      intro K hK
      obtain ⟨c0, c1, c2, c3, c4, c5, c6, c7, c8, c9, c10, c11⟩ := cfcells (blk_on (below_on B5.out hC) N1.out)
      go_simp
      exact hK _ _ rfl ⟨rfl, hC, Below.refl _ _⟩
    case s12 =>
      refine stepOk1 7 23 rfl (by kernel_rfl) ?_
      rintro w' hC v1 rfl
      intro K hK
      obtain ⟨c0, c1, c2, c3, c4, c5, c6, c7, c8, c9, c10, c11⟩ := cfcells (blk_on (below_on B5.out hC) N2.out)
      go_simp
      exact hK _ _ rfl ⟨rfl, hC, Below.refl _ _⟩
    case s13 =>
      refine stepOk3 7 23 11 27 12 28 rfl (by kernel_rfl) ?_
      rintro w' hC v1 v2 v3 rfl rfl rfl
      intro K hK
      try unfold cfV cfCells
      go_simp
      refine (K1.out w' (below_on B5.out hC)).mono ?_
      rintro e w2 ⟨rfl, h1⟩
      exact hK _ _ rfl ⟨rfl, below_on hC h1, h1⟩
    case s14 =>
      refine stepOk3 7 23 10 26 13 29 rfl (by kernel_rfl) ?_
      rintro w' hC v1 v2 v3 rfl rfl rfl
      intro K hK
      go_simp
      exact hK _ _ rfl ⟨rfl, hC, Below.refl _ _⟩
    case s15 =>
      refine stepOk2 7 23 14 30 rfl (by kernel_rfl) ?_
      rintro w' hC v1 v2 rfl rfl
      intro K hK
      go_simp
      exact hK _ _ rfl ⟨rfl, hC, Below.refl _ _⟩
    case s16 =>
      refine stepOk1 15 31 rfl (by kernel_rfl) ?_
      rintro w' hC v1 rfl
      intro K hK
      go_simp
      exact hK _ _ rfl ⟨rfl, hC, Below.refl _ _⟩
    case s17 =>
      refine stepOk1 16 32 rfl (by kernel_rfl) ?_
      rintro w' hC v1 rfl
      intro K hK
      obtain ⟨c0, c1, c2, c3, c4, c5, c6, c7, c8, c9, c10, c11⟩ := cfcells (blk_on (below_on B5.out hC) N1.out)
      go_simp
      exact hK _ _ rfl ⟨rfl, hC, Below.refl _ _⟩
    case s18 =>
      refine stepOk1 16 32 rfl (by kernel_rfl) ?_
      rintro w' hC v1 rfl
      intro K hK
      obtain ⟨c0, c1, c2, c3, c4, c5, c6, c7, c8, c9, c10, c11⟩ := cfcells (blk_on (below_on B5.out hC) N1.out)
      go_simp
      exact hK _ _ rfl ⟨rfl, hC, Below.refl _ _⟩
    case s19 =>
      refine stepOk3 16 32 17 33 18 34 rfl (by kernel_rfl) ?_
      rintro w' hC v1 v2 v3 rfl rfl rfl
      intro K hK
      try unfold cfV cfCells
      go_simp
      refine (K4.out w' (below_on B5.out hC)).mono ?_
      rintro e w2 ⟨rfl, h1⟩
      exact hK _ _ rfl ⟨rfl, below_on hC h1, h1⟩
    case s20 =>
      refine stepOk2 16 32 19 35 rfl (by kernel_rfl) ?_
      rintro w' hC v1 v2 rfl rfl
      intro K hK
      go_simp
      exact hK _ _ rfl ⟨rfl, hC, Below.refl _ _⟩
    case s21 =>
      refine stepOk1 20 36 rfl (by kernel_rfl) ?_
      rintro w' hC v1 rfl
      intro K hK
      go_simp
      exact hK _ _ rfl ⟨rfl, hC, Below.refl _ _⟩
  case hf =>
    intro w' hC t hx
    have h8 : t.getD 4 undef = .bool true := hx (21, 4) (by simp)
    have H8 := Lib.hid h8
    clear h8 hx
    go_wp2_with fail
    go_ret
    exact ⟨by rw [H8.out], below_on B2.out (below_on B5.out hC)⟩

theorem walk {w : World} (ca : CfgV) (wa : SeenC w ca ∧ CfFits ca) (cb : CfgV) (wb : SeenC w cb ∧ CfFits cb) (hL : IsL w) : Calls Tryd.prog 5 #[cfV ca, cfV cb] w fun r w' => r = .returned (.bool true) ∧ Below w.heap.size w w' :=
  walk_at ca cb _ _ (eqB ca.c cb.c) (Lib.hid fun w' h => awake12_any w' h) (Lib.hid fun w' h => great_cf_any ca w' h) (Lib.hid fun w' h => great_cf_any cb w' h) (Lib.hid fun w' h h' => csame_any ca cb w' h h') (Lib.hid fun w' h h' => rsame_any ca cb w' h h')
    (Lib.hid fun w' h h' => by rw [eqB_comm]; exact csame_any cb ca w' h' h) (Lib.hid fun w' h => by have := csame_any ca ca w' h h; rw [eqB_refl] at this; exact this) wa.1 wb.1 hL

theorem own : ownKnob Tryd.prog.godebug = none := by kernel_rfl
theorem laidOut : laidOutB Tryd.prog = true := by kernel_rfl

set_option maxRecDepth 100000 in
theorem lifted (os : Os) (started : os.Started) (H : Type) (enc : TypeId × Value → H) :
    ReturnsInHanded {} Tryd.checked os 5 .any (fun w args => (Rows.confSameSpec.pre enc Tryd.prog Tryd.f5 Rows.confSameRow.domain false w args ∧ laidMetH Tryd.prog laidL w) ∧ sizedMet enc Tryd.prog Tryd.f5 (OpenSpec.ofChange Rows.confSameSpec) false w args) (Rows.confSameSpec.post enc Tryd.prog Tryd.f5 false true false false) := by
  refine returnsInHanded_of_row (s := OpenSpec.ofChange Rows.confSameSpec) (F := fun _ _ _ => 0) (laid := laidL) (C := Tryd.checked) own started (by kernel_rfl) Tryd.func5
    (ChangeSpec.witness_shaped (enc := enc) (C := Tryd.checked) (os := os) (s := Rows.confSameSpec) (X := fun w _ => laidMetH Tryd.prog laidL w) false (World.laidAll Tryd.prog os laidL) #[.agg #[.slice none 0 0, .slice none 0 0, .int .i64 0, .slice none 0 0, .slice none 0 0, .slice none 0 0, .int .i64 0, .int .u32 0, .int .u32 0, .int .i64 0, .int .u64 0, .int .u64 0], .agg #[.slice none 0 0, .slice none 0 0, .int .i64 0, .slice none 0 0, .slice none 0 0, .slice none 0 0, .int .i64 0, .int .u32 0, .int .u32 0, .int .i64 0, .int .u64 0, .int .u64 0]] 8 (World.laidAll_os _ _ _)
      (World.shaped_of_ZipB (by kernel_rfl) (by kernel_rfl)) (by kernel_rfl) (by kernel_rfl) (by kernel_rfl)
      (by rw [MakeChecks.laidMetH_plain _ _ _ (by kernel_rfl)]; exact laidMet_laidAll _ (by kernel_rfl) (by kernel_rfl))) ?_
  intro W base args ds gs before hval0 hW hcnd _ hsz0 hL hsh _
  have hval : ∀ (j : Nat) t v, Tryd.f5.params[j]? = some t → args[j]? = some v → Value.okWide Tryd.prog W .any base t v := hval0
  have hW' := hW
  obtain ⟨p, q, hA0, hV, rfl, hfz, hnd⟩ := hW
  have hA : DataW.TrodAll enc Tryd.prog W 0 (fun _ => true) true Tryd.f5.params.toList args.toList ds p := hA0
  rw [Tryd.params5] at hA hval
  obtain ⟨v0, vs0, d0, ds0, p0, q0, hargs, rfl, rfl, h0, r0⟩ := trodAll_cons hA
  obtain ⟨v1, vs1, d1, ds1, p1, q1, rfl, rfl, rfl, h1, r1⟩ := trodAll_cons r0
  obtain ⟨rfl, rfl, rfl⟩ := trodAll_nil r1
  obtain rfl : args = #[v0, v1] := by cases args; simp_all
  obtain ⟨rfl, rfl⟩ := trodVars_none hV
  have k0 := h0
  have lt0 : ∀ x ∈ p0, x.block < W.heap.size := by obtain ⟨m, hm⟩ := k0; exact DataW.trod_lt m _ _ _ hm
  have k1 := h1
  have lt1 : ∀ x ∈ p1, x.block < W.heap.size := by obtain ⟨m, hm⟩ := k1; exact DataW.trod_lt m _ _ _ hm
  obtain ⟨a0, rfl, w0⟩ := open_cfg (hval 0 28 v0 rfl rfl) h0
  obtain ⟨a1, rfl, w1⟩ := open_cfg (hval 1 28 v1 rfl rfl) h1
  clear hA0 hval0
  refine (walk a0 w0 a1 w1 (of_laid hL hsh)).mono fun e W' ⟨he, bel⟩ => ?_
  subst he
  exact ⟨_, rfl, _, _, _, [], _, [], hW', trodAll_mk1 (shut_bool Tryd.underlying4 _), (trodAll_cons_mk (Below.trod laidOut (by kernel_rfl) (of_decide_eq_true (by kernel_rfl)) k0 bel lt0) (trodAll_cons_mk (Below.trod laidOut (by kernel_rfl) (of_decide_eq_true (by kernel_rfl)) k1 bel lt1) trodAll_mk0)), rfl, bel.frame _, fun h => by cases h⟩

theorem over : Rows.ConfSameSaid :=
  OpenClaim.holds_of_wide 5 Tryd.f5 rfl rfl rfl rfl rfl rfl rfl ⟨rfl, rfl, rfl, rfl, rfl⟩ rfl rfl rfl rfl rfl (by kernel_rfl) Tryd.func5 (by kernel_rfl)
    (of_decide_eq_true (by kernel_rfl)) (by unfold Func.isWrapper; first | (rw [if_pos (by decide +kernel)]; kernel_rfl) | (rw [if_neg (by decide +kernel)]; exact ⟨rfl, rfl⟩))
    (fun os started H enc _ => lifted os started H enc)

theorem proved : Rows.ConfSameCardSaid :=
  Claim7.holds_tied_plain_at .later [] _ true _ false over (fun _ h => by cases h) (by kernel_rfl) (fun _ h => by cases h) confSame_row_tie rfl ⟨rfl, rfl⟩ (by kernel_rfl) rfl
    (fun f fn hf hfn => by
      obtain rfl : f = 5 := Option.some.inj ((show Tryd.prog.funcNamed "taffrail/taffraillaw12.ConfSame" = some 5 by kernel_rfl).symm.trans hf) |>.symm
      obtain rfl : fn = Tryd.f5 := (Option.some.inj (Tryd.func5.symm.trans hfn)).symm
      refine ⟨by kernel_rfl, fun j t ht => ?_⟩
      rw [Tryd.params5] at ht
      have hm : t ∈ [28, 28] := by simpa using Array.mem_of_getElem? ht
      have hall : ([28, 28].all fun u => !Tryd.prog.wantsStandIn u) = true := by kernel_rfl
      exact (show Tryd.prog.wantsStandIn t = false by simpa using List.all_eq_true.1 hall t hm))
    (by kernel_rfl)
#print axioms proved

end Go.Proofs.YtbhnehacgkhpbaaDoor.ConfSame
