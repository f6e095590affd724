/-
  ConfTells: for every system the statement's function answers true: just that is told to be wrong first that the document says, or nothing (systems beyond the statement's own bound are let go by the statement itself). Conditions: none beyond the card's own: the listed package variables start as the program's text lays them, which the card ties to that text.
-/
import Derived.Test.YtbhnehacgkhpbaaDoorCfAw
import Derived.Test.YtbhnehacgkhpbaaDoorCfR
import Derived.Test.YtbhnehacgkhpbaaDoorCfG
import Derived.Test.YtbhnehacgkhpbaaDoorIsLw
import Derived.Test.YtbhnehacgkhpbaaDoorRel
import Derived.Test.YtbhnehacgkhpbaaDoorTie
import Derived.Test.YtbhnehacgkhpbaaDoorCards
import Derived.ProofKit
import Derived.OpenShut
import Derived.ShutString
import Derived.LaidMore
import Derived.Lay
import Derived.SevenTiedAt
import Derived.Stop.Joined
import Derived.Deep.DeepHandedRow
import Derived.BigRegion
import Derived.Deep.RegionWith
import Derived.Deep.DeepCutAuto
namespace Go.Proofs.YtbhnehacgkhpbaaDoor.ConfTells
open Go.ChangeShapes Go.WideShapes Go.ChangeAt Go.RowKit
open Go.ChangeMaps (open_string shut_string)
set_option linter.unusedVariables false
set_option linter.unusedSimpArgs false

set_option maxRecDepth 100000 in
set_option maxHeartbeats 16000000 in
theorem walk_at (cx : CfgV) (z : Bool) (R1 R2 R3 R4 : Int) {w : World}
    (HA : Hid (∀ w', IsL w' → Calls Tryd.prog 8 #[] w' fun r w'' => r = .returned (.bool true) ∧ Below w'.heap.size w' w''))
    (HG : Hid (∀ w', SeenC w' cx → Calls Tryd.prog 9 #[cfV cx] w' fun r w'' => r = .returned (.bool z) ∧ Below w'.heap.size w' w''))
    (H1 : Hid (∀ w', SeenC w' cx → IsL w' → Calls Tryd.prog 10 #[cfV cx] w' fun r w'' => r = .returned (.agg #[.int .i64 R1, .int .i64 R2, .int .i64 R3, .int .i64 R4]) ∧ Below w'.heap.size w' w''))
    (H2 : Hid (∀ w', SeenC w' cx → Calls Tryd.prog 11 #[cfV cx] w' fun r w'' => r = .returned (.agg #[.int .i64 R1, .int .i64 R2, .int .i64 R3, .int .i64 R4]) ∧ Below w'.heap.size w' w''))
    (hs : SeenC w cx) (hL : IsL w) : Calls Tryd.prog 3 #[cfV cx] w fun r w' => r = .returned (.bool true) ∧ Below w.heap.size w w' := by
  obtain ⟨w1, e1⟩ : ∃ w1, w1 = w.alloc (cfO cx) := ⟨_, rfl⟩
  obtain ⟨s1, n1, b1⟩ := new_size e1
  obtain ⟨D, hD⟩ : ∃ D, w.heap.size = D := ⟨_, rfl⟩
  rw [hD] at n1
  have N1 := Lib.hid n1
  have B1 := Lib.hid b1
  have HD := Lib.hid hD
  have S1 := hs.below b1
  have L1 := hL.below b1
  have KA : Hid (∀ w', Below w1.heap.size w1 w' → Calls Tryd.prog 8 #[] w' fun r w'' => r = .returned (.bool true) ∧ Below w'.heap.size w' w'') := Lib.hid (fun w' h => HA.out w' (L1.below h))
  have KG : Hid (∀ w', Below w1.heap.size w1 w' → Calls Tryd.prog 9 #[cfV cx] w' fun r w'' => r = .returned (.bool z) ∧ Below w'.heap.size w' w'') := Lib.hid (fun w' h => HG.out w' (S1.below h))
  have K1 : Hid (∀ w', Below w1.heap.size w1 w' → Calls Tryd.prog 10 #[cfV cx] w' fun r w'' => r = .returned (.agg #[.int .i64 R1, .int .i64 R2, .int .i64 R3, .int .i64 R4]) ∧ Below w'.heap.size w' w'') := Lib.hid (fun w' h => H1.out w' (S1.below h) (L1.below h))
  have K2 : Hid (∀ w', Below w1.heap.size w1 w' → Calls Tryd.prog 11 #[cfV cx] w' fun r w'' => r = .returned (.agg #[.int .i64 R1, .int .i64 R2, .int .i64 R3, .int .i64 R4]) ∧ Below w'.heap.size w' w'') := Lib.hid (fun w' h => H2.out w' (S1.below h))
  clear HA HG H1 H2 S1 L1 hs hL s1 n1 b1 hD
  unfold cfV cfCells at KG K1 K2
  unfold cfO cfCells at e1
  unfold cfV cfCells
  go_enter Tryd.func3, Tryd.ntmps3
  go_upto_region 1 with fail
  rw [← e1, HD.out]
  clear e1
  cases z
  case false =>
    refine wp_region_rel_end [.is (.bool true), .is (.bool true), .is (cfV cx), .is (.bool false), .is (.bool false), .is (cfV cx), .is (.agg #[.int .i64 R1, .int .i64 R2, .int .i64 R3, .int .i64 R4]), .is (cfV cx), .is (.agg #[.int .i64 R1, .int .i64 R2, .int .i64 R3, .int .i64 R4]), .is (.bool true), .is (.bool true), .is (.bool true), .is (.bool true)]
      (fun w' => Below w1.heap.size w1 w') [(0, 3), (1, 4), (2, 5), (3, 6), (4, 7), (5, 8), (6, 9), (7, 10), (8, 11), (9, 12), (10, 13), (11, 14), (12, 2)] 13 (by kernel_rfl) (by kernel_rfl) (by kernel_rfl) (by kernel_rfl) ?hC ?hs ?hf
    case hC => exact below_drew (Below.refl _ _)
    case hs =>
      refine stepsOk_succ ?s12 (stepsOk_succ ?s11 (stepsOk_succ ?s10 (stepsOk_succ ?s9 (stepsOk_succ ?s8 (stepsOk_succ ?s7 (stepsOk_succ ?s6 (stepsOk_succ ?s5 (stepsOk_succ ?s4 (stepsOk_succ ?s3 (stepsOk_succ ?s2 (stepsOk_succ ?s1 (stepsOk_succ ?s0 (stepsOk_zero)))))))))))))
      case s0 =>
        refine stepOk0 rfl (by kernel_rfl) ?_
        rintro w' hC
        intro K hK
        try unfold cfV cfCells
        go_simp
        refine (KA.out w' hC).mono ?_
        rintro e w2 ⟨rfl, h1⟩
        exact hK _ _ rfl ⟨rfl, below_on hC h1, h1⟩
      case s1 =>
        refine stepOk1 0 3 rfl (by kernel_rfl) ?_
        rintro w' hC v1 rfl
        intro K hK
        go_simp
        exact hK _ _ rfl ⟨rfl, hC, Below.refl _ _⟩
      case s2 =>
        refine stepOk1 1 4 rfl (by kernel_rfl) ?_
        rintro w' hC v1 rfl
        intro K hK
        obtain ⟨c0, c1, c2, c3, c4, c5, c6, c7, c8, c9, c10, c11⟩ := cfcells (blk_on hC N1.out)
        go_simp
        exact hK _ _ rfl ⟨rfl, hC, Below.refl _ _⟩
      case s3 =>
        refine stepOk2 1 4 2 5 rfl (by kernel_rfl) ?_
        rintro w' hC v1 v2 rfl rfl
        intro K hK
        try unfold cfV cfCells
        go_simp
        refine (KG.out w' hC).mono ?_
        rintro e w2 ⟨rfl, h1⟩
        exact hK _ _ rfl ⟨rfl, below_on hC h1, h1⟩
      case s4 =>
        refine stepOk2 1 4 3 6 rfl (by kernel_rfl) ?_
        rintro w' hC v1 v2 rfl rfl
        intro K hK
        go_simp
        exact hK _ _ rfl ⟨rfl, hC, Below.refl _ _⟩
      case s5 =>
        refine stepOk1 4 7 rfl (by kernel_rfl) ?_
        rintro w' hC v1 rfl
        intro K hK
        obtain ⟨c0, c1, c2, c3, c4, c5, c6, c7, c8, c9, c10, c11⟩ := cfcells (blk_on hC N1.out)
        go_simp
        exact hK _ _ rfl ⟨rfl, hC, Below.refl _ _⟩
      case s6 =>
        refine stepOk2 4 7 5 8 rfl (by kernel_rfl) ?_
        rintro w' hC v1 v2 rfl rfl
        intro K hK
        try unfold cfV cfCells
        go_simp
        refine (K1.out w' hC).mono ?_
        rintro e w2 ⟨rfl, h1⟩
        exact hK _ _ rfl ⟨rfl, below_on hC h1, h1⟩
      case s7 =>
        refine stepOk1 4 7 rfl (by kernel_rfl) ?_
        rintro w' hC v1 rfl
        intro K hK
        obtain ⟨c0, c1, c2, c3, c4, c5, c6, c7, c8, c9, c10, c11⟩ := cfcells (blk_on hC N1.out)
        go_simp
        exact hK _ _ rfl ⟨rfl, hC, Below.refl _ _⟩
      case s8 =>
        refine stepOk2 4 7 7 10 rfl (by kernel_rfl) ?_
        rintro w' hC v1 v2 rfl rfl
        intro K hK
        try unfold cfV cfCells
        go_simp
        refine (K2.out w' hC).mono ?_
        rintro e w2 ⟨rfl, h1⟩
        exact hK _ _ rfl ⟨rfl, below_on hC h1, h1⟩
      case s9 =>
        refine stepOk3 4 7 6 9 8 11 rfl (by kernel_rfl) ?_
        rintro w' hC v1 v2 v3 rfl rfl rfl
        intro K hK
        go_simp
        exact hK _ _ rfl ⟨rfl, hC, Below.refl _ _⟩
      case s10 =>
        refine stepOk3 1 4 4 7 9 12 rfl (by kernel_rfl) ?_
        rintro w' hC v1 v2 v3 rfl rfl rfl
        intro K hK
        go_simp
        exact hK _ _ rfl ⟨rfl, hC, Below.refl _ _⟩
      case s11 =>
        refine stepOk2 1 4 10 13 rfl (by kernel_rfl) ?_
        rintro w' hC v1 v2 rfl rfl
        intro K hK
        go_simp
        exact hK _ _ rfl ⟨rfl, hC, Below.refl _ _⟩
      case s12 =>
        refine stepOk1 11 14 rfl (by kernel_rfl) ?_
        rintro w' hC v1 rfl
        intro K hK
        go_simp
        exact hK _ _ rfl ⟨rfl, hC, Below.refl _ _⟩
    case hf =>
      intro w' hC t hx
      have h8 : t.getD 2 undef = .bool true := hx (12, 2) (by simp)
      have H8 := Lib.hid h8
      clear h8 hx
      go_wp2_with fail
      go_ret
      exact ⟨by rw [H8.out], below_on B1.out hC⟩
  case true =>
    refine wp_region_rel_end [.is (.bool true), .is (.bool true), .is (cfV cx), .is (.bool true), .is (.bool true), .any, .any, .any, .any, .any, .is (.bool true), .is (.bool true), .is (.bool true)]
      (fun w' => Below w1.heap.size w1 w') [(0, 3), (1, 4), (2, 5), (3, 6), (4, 7), (5, 8), (6, 9), (7, 10), (8, 11), (9, 12), (10, 13), (11, 14), (12, 2)] 13 (by kernel_rfl) (by kernel_rfl) (by kernel_rfl) (by kernel_rfl) ?hC ?hs ?hf
    case hC => exact below_drew (Below.refl _ _)
    case hs =>
      refine stepsOk_succ ?s12 (stepsOk_succ ?s11 (stepsOk_succ ?s10 (stepsOk_succ ?s9 (stepsOk_succ ?s8 (stepsOk_succ ?s7 (stepsOk_succ ?s6 (stepsOk_succ ?s5 (stepsOk_succ ?s4 (stepsOk_succ ?s3 (stepsOk_succ ?s2 (stepsOk_succ ?s1 (stepsOk_succ ?s0 (stepsOk_zero)))))))))))))
      case s0 =>
        refine stepOk0 rfl (by kernel_rfl) ?_
        rintro w' hC
        intro K hK
        try unfold cfV cfCells
        go_simp
        refine (KA.out w' hC).mono ?_
        rintro e w2 ⟨rfl, h1⟩
        exact hK _ _ rfl ⟨rfl, below_on hC h1, h1⟩
      case s1 =>
        refine stepOk1 0 3 rfl (by kernel_rfl) ?_
        rintro w' hC v1 rfl
        intro K hK
        go_simp
        exact hK _ _ rfl ⟨rfl, hC, Below.refl _ _⟩
      case s2 =>
        refine stepOk1 1 4 rfl (by kernel_rfl) ?_
        rintro w' hC v1 rfl
        intro K hK
        obtain ⟨c0, c1, c2, c3, c4, c5, c6, c7, c8, c9, c10, c11⟩ := cfcells (blk_on hC N1.out)
        go_simp
        exact hK _ _ rfl ⟨rfl, hC, Below.refl _ _⟩
      case s3 =>
        refine stepOk2 1 4 2 5 rfl (by kernel_rfl) ?_
        rintro w' hC v1 v2 rfl rfl
        intro K hK
        try unfold cfV cfCells
        go_simp
        refine (KG.out w' hC).mono ?_
        rintro e w2 ⟨rfl, h1⟩
        exact hK _ _ rfl ⟨rfl, below_on hC h1, h1⟩
      case s4 =>
        refine stepOk2 1 4 3 6 rfl (by kernel_rfl) ?_
        rintro w' hC v1 v2 rfl rfl
        intro K hK
        go_simp
        exact hK _ _ rfl ⟨rfl, hC, Below.refl _ _⟩
      case s5 =>
        refine stepOk1 4 7 rfl (by kernel_rfl) ?_
        rintro w' hC v1 rfl
        intro K hK
        go_simp
        exact hK _ _ rfl ⟨trivial, hC, Below.refl _ _⟩
      case s6 =>
        refine stepOk2 4 7 5 8 rfl (by kernel_rfl) ?_
        rintro w' hC v1 v2 rfl h1
        intro K hK
        go_simp
        exact hK _ _ rfl ⟨trivial, hC, Below.refl _ _⟩
      case s7 =>
        refine stepOk1 4 7 rfl (by kernel_rfl) ?_
        rintro w' hC v1 rfl
        intro K hK
        go_simp
        exact hK _ _ rfl ⟨trivial, hC, Below.refl _ _⟩
      case s8 =>
        refine stepOk2 4 7 7 10 rfl (by kernel_rfl) ?_
        rintro w' hC v1 v2 rfl h1
        intro K hK
        go_simp
        exact hK _ _ rfl ⟨trivial, hC, Below.refl _ _⟩
      case s9 =>
        refine stepOk3 4 7 6 9 8 11 rfl (by kernel_rfl) ?_
        rintro w' hC v1 v2 v3 rfl h1 h2
        intro K hK
        go_simp
        exact hK _ _ rfl ⟨trivial, hC, Below.refl _ _⟩
      case s10 =>
        refine stepOk3 1 4 4 7 9 12 rfl (by kernel_rfl) ?_
        rintro w' hC v1 v2 v3 rfl rfl h2
        intro K hK
        go_simp
        exact hK _ _ rfl ⟨rfl, hC, Below.refl _ _⟩
      case s11 =>
        refine stepOk2 1 4 10 13 rfl (by kernel_rfl) ?_
        rintro w' hC v1 v2 rfl rfl
        intro K hK
        go_simp
        exact hK _ _ rfl ⟨rfl, hC, Below.refl _ _⟩
      case s12 =>
        refine stepOk1 11 14 rfl (by kernel_rfl) ?_
        rintro w' hC v1 rfl
        intro K hK
        go_simp
        exact hK _ _ rfl ⟨rfl, hC, Below.refl _ _⟩
    case hf =>
      intro w' hC t hx
      have h8 : t.getD 2 undef = .bool true := hx (12, 2) (by simp)
      have H8 := Lib.hid h8
      clear h8 hx
      go_wp2_with fail
      go_ret
      exact ⟨by rw [H8.out], below_on B1.out hC⟩

theorem walk {w : World} (cx : CfgV) (hw : SeenC w cx ∧ CfFits cx) (hL : IsL w) : Calls Tryd.prog 3 #[cfV cx] w fun r w' => r = .returned (.bool true) ∧ Below w.heap.size w w' :=
  have hk : CfK cx := ⟨hw.2.tk, hw.2.lk, hw.2.ma⟩
  walk_at cx _ _ _ _ _ (Lib.hid fun w' h => awake12_any w' h) (Lib.hid fun w' h => great_cf_any cx w' h) (Lib.hid fun w' h h' => ccheck_any cx w' h h' hk) (Lib.hid fun w' h => rcheckc_any cx w' h hk) hw.1 hL

theorem own : ownKnob Tryd.prog.godebug = none := by kernel_rfl
theorem laidOut : laidOutB Tryd.prog = true := by kernel_rfl

set_option maxRecDepth 100000 in
theorem lifted (os : Os) (started : os.Started) (H : Type) (enc : TypeId × Value → H) :
    ReturnsInHanded {} Tryd.checked os 3 .any (fun w args => (Rows.confTellsSpec.pre enc Tryd.prog Tryd.f3 Rows.confTellsRow.domain false w args ∧ laidMetH Tryd.prog laidL w) ∧ sizedMet enc Tryd.prog Tryd.f3 (OpenSpec.ofChange Rows.confTellsSpec) false w args) (Rows.confTellsSpec.post enc Tryd.prog Tryd.f3 false true false false) := by
  refine returnsInHanded_of_row (s := OpenSpec.ofChange Rows.confTellsSpec) (F := fun _ _ _ => 0) (laid := laidL) (C := Tryd.checked) own started (by kernel_rfl) Tryd.func3
    (ChangeSpec.witness_shaped (enc := enc) (C := Tryd.checked) (os := os) (s := Rows.confTellsSpec) (X := fun w _ => laidMetH Tryd.prog laidL w) false (World.laidAll Tryd.prog os laidL) #[.agg #[.slice none 0 0, .slice none 0 0, .int .i64 0, .slice none 0 0, .slice none 0 0, .slice none 0 0, .int .i64 0, .int .u32 0, .int .u32 0, .int .i64 0, .int .u64 0, .int .u64 0]] 8 (World.laidAll_os _ _ _)
      (World.shaped_of_ZipB (by kernel_rfl) (by kernel_rfl)) (by kernel_rfl) (by kernel_rfl) (by kernel_rfl)
      (by rw [MakeChecks.laidMetH_plain _ _ _ (by kernel_rfl)]; exact laidMet_laidAll _ (by kernel_rfl) (by kernel_rfl))) ?_
  intro W base args ds gs before hval0 hW hcnd _ hsz0 hL hsh _
  have hval : ∀ (j : Nat) t v, Tryd.f3.params[j]? = some t → args[j]? = some v → Value.okWide Tryd.prog W .any base t v := hval0
  have hW' := hW
  obtain ⟨p, q, hA0, hV, rfl, hfz, hnd⟩ := hW
  have hA : DataW.TrodAll enc Tryd.prog W 0 (fun _ => true) true Tryd.f3.params.toList args.toList ds p := hA0
  rw [Tryd.params3] at hA hval
  obtain ⟨v0, vs0, d0, ds0, p0, q0, hargs, rfl, rfl, h0, r0⟩ := trodAll_cons hA
  obtain ⟨rfl, rfl, rfl⟩ := trodAll_nil r0
  obtain rfl : args = #[v0] := by cases args; simp_all
  obtain ⟨rfl, rfl⟩ := trodVars_none hV
  have k0 := h0
  have lt0 : ∀ x ∈ p0, x.block < W.heap.size := by obtain ⟨m, hm⟩ := k0; exact DataW.trod_lt m _ _ _ hm
  obtain ⟨a0, rfl, w0⟩ := open_cfg (hval 0 28 v0 rfl rfl) h0
  clear hA0 hval0
  refine (walk a0 w0 (of_laid hL hsh)).mono fun e W' ⟨he, bel⟩ => ?_
  subst he
  exact ⟨_, rfl, _, _, _, [], _, [], hW', trodAll_mk1 (shut_bool Tryd.underlying4 _), (trodAll_cons_mk (Below.trod laidOut (by kernel_rfl) (of_decide_eq_true (by kernel_rfl)) k0 bel lt0) trodAll_mk0), rfl, bel.frame _, fun h => by cases h⟩

theorem over : Rows.ConfTellsSaid :=
  OpenClaim.holds_of_wide 3 Tryd.f3 rfl rfl rfl rfl rfl rfl rfl ⟨rfl, rfl, rfl, rfl, rfl⟩ rfl rfl rfl rfl rfl (by kernel_rfl) Tryd.func3 (by kernel_rfl)
    (of_decide_eq_true (by kernel_rfl)) (by unfold Func.isWrapper; first | (rw [if_pos (by decide +kernel)]; kernel_rfl) | (rw [if_neg (by decide +kernel)]; exact ⟨rfl, rfl⟩))
    (fun os started H enc _ => lifted os started H enc)

theorem proved : Rows.ConfTellsCardSaid :=
  Claim7.holds_tied_plain_at .later [] _ true _ false over (fun _ h => by cases h) (by kernel_rfl) (fun _ h => by cases h) confTells_row_tie rfl ⟨rfl, rfl⟩ (by kernel_rfl) rfl
    (fun f fn hf hfn => by
      obtain rfl : f = 3 := Option.some.inj ((show Tryd.prog.funcNamed "taffrail/taffraillaw12.ConfTells" = some 3 by kernel_rfl).symm.trans hf) |>.symm
      obtain rfl : fn = Tryd.f3 := (Option.some.inj (Tryd.func3.symm.trans hfn)).symm
      refine ⟨by kernel_rfl, fun j t ht => ?_⟩
      rw [Tryd.params3] at ht
      have hm : t ∈ [28] := by simpa using Array.mem_of_getElem? ht
      have hall : ([28].all fun u => !Tryd.prog.wantsStandIn u) = true := by kernel_rfl
      exact (show Tryd.prog.wantsStandIn t = false by simpa using List.all_eq_true.1 hall t hm))
    (by kernel_rfl)
#print axioms proved

end Go.Proofs.YtbhnehacgkhpbaaDoor.ConfTells
