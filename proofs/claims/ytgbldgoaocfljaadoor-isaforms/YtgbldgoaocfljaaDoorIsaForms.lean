/-
  IsaForms: for every instruction the statement's function answers true: it can be, or is refused, and costs, as the document says. Conditions: none beyond the card's own: the listed package variables start as the program's text lays them, which the card ties to that text.
-/
import Derived.Test.YtgbldgoaocfljaaDoorIsR3
import Derived.Test.YtgbldgoaocfljaaDoorIsAw
import Derived.Test.YtgbldgoaocfljaaDoorIsLw
import Derived.Test.YtgbldgoaocfljaaDoorRel
import Derived.Test.YtgbldgoaocfljaaDoorTie
import Derived.Test.YtgbldgoaocfljaaDoorCards
import Derived.ProofKit
import Derived.OpenShut
import Derived.ShutString
import Derived.LaidMore
import Derived.Lay
import Derived.SevenTiedAt
import Derived.Stop.Joined
import Derived.Deep.DeepHandedRow
import Derived.BigRegion
import Derived.Deep.RegionWith
import Derived.Deep.DeepCutAuto
namespace Go.Proofs.YtgbldgoaocfljaaDoor.IsaForms
open Go.ChangeShapes Go.WideShapes Go.ChangeAt Go.RowKit
open Go.ChangeMaps (open_string shut_string)
set_option linter.unusedVariables false
set_option linter.unusedSimpArgs false

set_option maxRecDepth 100000 in
set_option maxHeartbeats 2000000 in
theorem walk (i : Ins) (f : InsFits i) (w : World) (hL : IsL w) :
    Calls Tryd.prog 3 #[insV i] w fun r w' => r = .returned (.bool true) ∧ Below w.heap.size w w' := by
  obtain ⟨w1, e1⟩ : ∃ w1, w1 = w.alloc (insO i) := ⟨_, rfl⟩
  obtain ⟨-, n1, b1⟩ := new_size e1
  have HL := Lib.hid (hL.below b1)
  have B1 := Lib.hid b1
  have N1 := Lib.hid n1
  have HA := Lib.hid (fun w' h' => awake10_any w' h')
  have H1 := Lib.hid (fun w' h' => iform_any i w' h')
  have H2 := Lib.hid (fun w' (h' : IsL w') => riform_any i w')
  have H3 := Lib.hid (fun w' h' => icost_any i f.k w' h')
  have H4 := Lib.hid (fun w' (h' : IsL w') => ricost_any i f.k w')
  generalize formI i = x at *
  generalize costI i = y at *
  obtain ⟨op, a, b, c, d, k⟩ := i
  obtain ⟨D, hD⟩ : ∃ D, w.heap.size = D := ⟨_, rfl⟩
  rw [hD] at N1
  have HD := Lib.hid hD
  unfold insO at e1
  unfold insV at *
  simp only at *
  clear n1 b1 hL hD f
  go_enter Tryd.func3, Tryd.ntmps3
  go_wp2_with fail
  rw [← e1, HD.out]
  clear e1
  refine wp_region_rel_end [.is (.bool true), .is (.bool true), .is (.agg #[.int .i64 op, .int .i64 a, .int .i64 b, .int .i64 c, .int .i64 d, .int .u32 (k : Int)]), .is (.int .i64 x), .is (.agg #[.int .i64 op, .int .i64 a, .int .i64 b, .int .i64 c, .int .i64 d, .int .u32 (k : Int)]), .is (.int .i64 x), .is (.bool true), .is (.bool true), .is (.bool true), .is (.agg #[.int .i64 op, .int .i64 a, .int .i64 b, .int .i64 c, .int .i64 d, .int .u32 (k : Int)]), .is (.int .i64 y), .is (.agg #[.int .i64 op, .int .i64 a, .int .i64 b, .int .i64 c, .int .i64 d, .int .u32 (k : Int)]), .is (.int .i64 y), .is (.bool true), .is (.bool true), .is (.bool true)]
    (fun w' => Below w1.heap.size w1 w') [(0, 3), (1, 4), (2, 5), (3, 6), (4, 7), (5, 8), (6, 9), (7, 10), (8, 11), (9, 12), (10, 13), (11, 14), (12, 15), (13, 16), (14, 17), (15, 2)] 16 (by kernel_rfl) (by kernel_rfl) (by kernel_rfl) (by kernel_rfl) ?hC ?hs ?hf
  case hC => exact below_drew (Below.refl _ _)
  case hs =>
    refine stepsOk_succ ?s15 (stepsOk_succ ?s14 (stepsOk_succ ?s13 (stepsOk_succ ?s12 (stepsOk_succ ?s11 (stepsOk_succ ?s10 (stepsOk_succ ?s9 (stepsOk_succ ?s8 (stepsOk_succ ?s7 (stepsOk_succ ?s6 (stepsOk_succ ?s5 (stepsOk_succ ?s4 (stepsOk_succ ?s3 (stepsOk_succ ?s2 (stepsOk_succ ?s1 (stepsOk_succ ?s0 (stepsOk_zero))))))))))))))))
    case s0 =>
      refine stepOk0 rfl (by kernel_rfl) ?_
      rintro w' hC
      intro K hK
      go_simp
      refine (HA.out w' (HL.out.below hC)).mono ?_
      rintro e w2 ⟨rfl, h1⟩
      exact hK _ _ rfl ⟨rfl, below_on hC h1, h1⟩
    case s1 =>
      refine stepOk1 0 3 rfl (by kernel_rfl) ?_
      rintro w' hC v1 rfl
      intro K hK
      go_simp
      exact hK _ _ rfl ⟨rfl, hC, Below.refl _ _⟩
    case s2 =>
      refine stepOk1 1 4 rfl (by kernel_rfl) ?_
      rintro w' hC v1 rfl
      intro K hK
      obtain ⟨c0, c1, c2, c3, c4, c5⟩ := inscells (blk_on hC N1.out)
      simp only at c0 c1 c2 c3 c4 c5
      go_simp
      exact hK _ _ rfl ⟨rfl, hC, Below.refl _ _⟩
    case s3 =>
      refine stepOk2 1 4 2 5 rfl (by kernel_rfl) ?_
      rintro w' hC v1 v2 rfl rfl
      intro K hK
      go_simp
      refine (H1.out w' (HL.out.below hC)).mono ?_
      rintro e w2 ⟨rfl, h1⟩
      exact hK _ _ rfl ⟨rfl, below_on hC h1, h1⟩
    case s4 =>
      refine stepOk1 1 4 rfl (by kernel_rfl) ?_
      rintro w' hC v1 rfl
      intro K hK
      obtain ⟨c0, c1, c2, c3, c4, c5⟩ := inscells (blk_on hC N1.out)
      simp only at c0 c1 c2 c3 c4 c5
      go_simp
      exact hK _ _ rfl ⟨rfl, hC, Below.refl _ _⟩
    case s5 =>
      refine stepOk2 1 4 4 7 rfl (by kernel_rfl) ?_
      rintro w' hC v1 v2 rfl rfl
      intro K hK
      go_simp
      refine (H2.out w' (HL.out.below hC)).mono ?_
      rintro e w2 ⟨rfl, h1⟩
      exact hK _ _ rfl ⟨rfl, below_on hC h1, h1⟩
    case s6 =>
      refine stepOk3 1 4 3 6 5 8 rfl (by kernel_rfl) ?_
      rintro w' hC v1 v2 v3 rfl rfl rfl
      intro K hK
      go_simp
      exact hK _ _ rfl ⟨rfl, hC, Below.refl _ _⟩
    case s7 =>
      refine stepOk2 1 4 6 9 rfl (by kernel_rfl) ?_
      rintro w' hC v1 v2 rfl rfl
      intro K hK
      go_simp
      exact hK _ _ rfl ⟨rfl, hC, Below.refl _ _⟩
    case s8 =>
      refine stepOk1 7 10 rfl (by kernel_rfl) ?_
      rintro w' hC v1 rfl
      intro K hK
      go_simp
      exact hK _ _ rfl ⟨rfl, hC, Below.refl _ _⟩
    case s9 =>
      refine stepOk1 8 11 rfl (by kernel_rfl) ?_
      rintro w' hC v1 rfl
      intro K hK
      obtain ⟨c0, c1, c2, c3, c4, c5⟩ := inscells (blk_on hC N1.out)
      simp only at c0 c1 c2 c3 c4 c5
      go_simp
      exact hK _ _ rfl ⟨rfl, hC, Below.refl _ _⟩
    case s10 =>
      refine stepOk2 8 11 9 12 rfl (by kernel_rfl) ?_
      rintro w' hC v1 v2 rfl rfl
      intro K hK
      go_simp
      refine (H3.out w' (HL.out.below hC)).mono ?_
      rintro e w2 ⟨rfl, h1⟩
      exact hK _ _ rfl ⟨rfl, below_on hC h1, h1⟩
    case s11 =>
      refine stepOk1 8 11 rfl (by kernel_rfl) ?_
      rintro w' hC v1 rfl
      intro K hK
      obtain ⟨c0, c1, c2, c3, c4, c5⟩ := inscells (blk_on hC N1.out)
      simp only at c0 c1 c2 c3 c4 c5
      go_simp
      exact hK _ _ rfl ⟨rfl, hC, Below.refl _ _⟩
    case s12 =>
      refine stepOk2 8 11 11 14 rfl (by kernel_rfl) ?_
      rintro w' hC v1 v2 rfl rfl
      intro K hK
      go_simp
      refine (H4.out w' (HL.out.below hC)).mono ?_
      rintro e w2 ⟨rfl, h1⟩
      exact hK _ _ rfl ⟨rfl, below_on hC h1, h1⟩
    case s13 =>
      refine stepOk3 8 11 10 13 12 15 rfl (by kernel_rfl) ?_
      rintro w' hC v1 v2 v3 rfl rfl rfl
      intro K hK
      go_simp
      exact hK _ _ rfl ⟨rfl, hC, Below.refl _ _⟩
    case s14 =>
      refine stepOk2 8 11 13 16 rfl (by kernel_rfl) ?_
      rintro w' hC v1 v2 rfl rfl
      intro K hK
      go_simp
      exact hK _ _ rfl ⟨rfl, hC, Below.refl _ _⟩
    case s15 =>
      refine stepOk1 14 17 rfl (by kernel_rfl) ?_
      rintro w' hC v1 rfl
      intro K hK
      go_simp
      exact hK _ _ rfl ⟨rfl, hC, Below.refl _ _⟩
  case hf =>
    intro w' hC t hx
    have h8 : t.getD 2 undef = .bool true := hx (15, 2) (by simp)
    have H8 := Lib.hid h8
    clear h8 hx
    go_wp2_with fail
    go_ret
    exact ⟨by rw [H8.out], below_on B1.out hC⟩

theorem own : ownKnob Tryd.prog.godebug = none := by kernel_rfl
theorem laidOut : laidOutB Tryd.prog = true := by kernel_rfl

set_option maxRecDepth 100000 in
theorem lifted (os : Os) (started : os.Started) (H : Type) (enc : TypeId × Value → H) :
    ReturnsInHanded {} Tryd.checked os 3 .any (fun w args => (Rows.isaFormsSpec.pre enc Tryd.prog Tryd.f3 Rows.isaFormsRow.domain false w args ∧ laidMetH Tryd.prog laidL w) ∧ sizedMet enc Tryd.prog Tryd.f3 (OpenSpec.ofChange Rows.isaFormsSpec) false w args) (Rows.isaFormsSpec.post enc Tryd.prog Tryd.f3 false true false false) := by
  refine returnsInHanded_of_row (s := OpenSpec.ofChange Rows.isaFormsSpec) (F := fun _ _ _ => 0) (laid := laidL) (C := Tryd.checked) own started (by kernel_rfl) Tryd.func3
    (ChangeSpec.witness_shaped (enc := enc) (C := Tryd.checked) (os := os) (s := Rows.isaFormsSpec) (X := fun w _ => laidMetH Tryd.prog laidL w) false (World.laidAll Tryd.prog os laidL) #[.agg #[.int .i64 0, .int .i64 0, .int .i64 0, .int .i64 0, .int .i64 0, .int .u32 0]] 8 (World.laidAll_os _ _ _)
      (World.shaped_of_ZipB (by kernel_rfl) (by kernel_rfl)) (by kernel_rfl) (by kernel_rfl) (by kernel_rfl)
      (by rw [MakeChecks.laidMetH_plain _ _ _ (by kernel_rfl)]; exact laidMet_laidAll _ (by kernel_rfl) (by kernel_rfl))) ?_
  intro W base args ds gs before hval0 hW hcnd _ hsz0 hL hsh _
  have hval : ∀ (j : Nat) t v, Tryd.f3.params[j]? = some t → args[j]? = some v → Value.okWide Tryd.prog W .any base t v := hval0
  have hW' := hW
  obtain ⟨p, q, hA0, hV, rfl, hfz, hnd⟩ := hW
  have hA : DataW.TrodAll enc Tryd.prog W 0 (fun _ => true) true Tryd.f3.params.toList args.toList ds p := hA0
  rw [Tryd.params3] at hA hval
  obtain ⟨v0, vs0, d0, ds0, p0, q0, hargs, rfl, rfl, h0, r0⟩ := trodAll_cons hA
  obtain ⟨rfl, rfl, rfl⟩ := trodAll_nil r0
  obtain rfl : args = #[v0] := by cases args; simp_all
  obtain ⟨rfl, rfl⟩ := trodVars_none hV
  have k0 := h0
  have lt0 : ∀ x ∈ p0, x.block < W.heap.size := by obtain ⟨m, hm⟩ := k0; exact DataW.trod_lt m _ _ _ hm
  obtain ⟨a0, rfl, w0⟩ := open_ins (hval 0 24 v0 rfl rfl) h0
  clear hA0 hval0
  refine (walk a0 w0 W (of_laid hL hsh)).mono fun e W' ⟨he, bel⟩ => ?_
  subst he
  exact ⟨_, rfl, _, _, _, [], _, [], hW', trodAll_mk1 (shut_bool Tryd.underlying4 _), (trodAll_cons_mk (Below.trod laidOut (by kernel_rfl) (of_decide_eq_true (by kernel_rfl)) k0 bel lt0) trodAll_mk0), rfl, bel.frame _, fun h => by cases h⟩

theorem over : Rows.IsaFormsSaid :=
  OpenClaim.holds_of_wide 3 Tryd.f3 rfl rfl rfl rfl rfl rfl rfl ⟨rfl, rfl, rfl, rfl, rfl⟩ rfl rfl rfl rfl rfl (by kernel_rfl) Tryd.func3 (by kernel_rfl)
    (of_decide_eq_true (by kernel_rfl)) (by unfold Func.isWrapper; first | (rw [if_pos (by decide +kernel)]; kernel_rfl) | (rw [if_neg (by decide +kernel)]; exact ⟨rfl, rfl⟩))
    (fun os started H enc _ => lifted os started H enc)

theorem proved : Rows.IsaFormsCardSaid :=
  Claim7.holds_tied_plain_at .later [] _ true _ false over (fun _ h => by cases h) (by kernel_rfl) (fun _ h => by cases h) isaForms_row_tie rfl ⟨rfl, rfl⟩ (by kernel_rfl) rfl
    (fun f fn hf hfn => by
      obtain rfl : f = 3 := Option.some.inj ((show Tryd.prog.funcNamed "taffrail/taffraillaw10.IsaForms" = some 3 by kernel_rfl).symm.trans hf) |>.symm
      obtain rfl : fn = Tryd.f3 := (Option.some.inj (Tryd.func3.symm.trans hfn)).symm
      refine ⟨by kernel_rfl, fun j t ht => ?_⟩
      rw [Tryd.params3] at ht
      have hm : t ∈ [24] := by simpa using Array.mem_of_getElem? ht
      have hall : ([24].all fun u => !Tryd.prog.wantsStandIn u) = true := by kernel_rfl
      exact (show Tryd.prog.wantsStandIn t = false by simpa using List.all_eq_true.1 hall t hm))
    (by kernel_rfl)
#print axioms proved

end Go.Proofs.YtgbldgoaocfljaaDoor.IsaForms
