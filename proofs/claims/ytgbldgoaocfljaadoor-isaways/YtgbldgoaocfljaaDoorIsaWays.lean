/-
  IsaWays: for every instruction and two sizes the statement's function answers true: what may stand in a line's program may stand in a task's, but for the return; a longer program lets at least as much stand. Conditions: none beyond the card's own: the listed package variables start as the program's text lays them, which the card ties to that text.
-/
import Derived.Test.YtgbldgoaocfljaaDoorIsR3
import Derived.Test.YtgbldgoaocfljaaDoorIsAw
import Derived.Test.YtgbldgoaocfljaaDoorIsLw
import Derived.Test.YtgbldgoaocfljaaDoorRel
import Derived.Test.YtgbldgoaocfljaaDoorTie
import Derived.Test.YtgbldgoaocfljaaDoorCards
import Derived.ProofKit
import Derived.OpenShut
import Derived.ShutString
import Derived.LaidMore
import Derived.Lay
import Derived.SevenTiedAt
import Derived.Stop.Joined
import Derived.Deep.DeepHandedRow
import Derived.BigRegion
import Derived.Deep.RegionWith
import Derived.Deep.DeepCutAuto
namespace Go.Proofs.YtgbldgoaocfljaaDoor.IsaWays
open Go.ChangeShapes Go.WideShapes Go.ChangeAt Go.RowKit
open Go.ChangeMaps (open_string shut_string)
set_option linter.unusedVariables false
set_option linter.unusedSimpArgs false

set_option maxRecDepth 100000 in
set_option maxHeartbeats 2000000 in
theorem walk_at (i : Ins) (size more S M : Int) (hS : (if size < 0 then 0 else size) = S) (hM : (if more < 0 then 0 else more) = M) (hS0 : 0 ≤ S) (hM0 : 0 ≤ M) (ra rb rc rd : Int) (w : World) (hL : IsL w)
    (HA : Hid (∀ w', IsL w' → Calls Tryd.prog 13 #[insV i, .int .i64 S, .bool true] w' fun r w'' => r = .returned (.int .i64 ra) ∧ Below w'.heap.size w' w''))
    (HB : Hid (∀ w', IsL w' → Calls Tryd.prog 13 #[insV i, .int .i64 S, .bool false] w' fun r w'' => r = .returned (.int .i64 rb) ∧ Below w'.heap.size w' w''))
    (HC : Hid (∀ w', IsL w' → Calls Tryd.prog 13 #[insV i, .int .i64 (S + M), .bool true] w' fun r w'' => r = .returned (.int .i64 rc) ∧ Below w'.heap.size w' w''))
    (HE : Hid (∀ w', IsL w' → Calls Tryd.prog 13 #[insV i, .int .i64 (S + M), .bool false] w' fun r w'' => r = .returned (.int .i64 rd) ∧ Below w'.heap.size w' w''))
    (tac : Hid (ra = 0 → rc = 0)) (tbd : Hid (rb = 0 → rd = 0)) (tab : Hid (ra = 0 → i.op ≠ 38 → rb = 0)) :
    Calls Tryd.prog 7 #[insV i, .int .i64 size, .int .i64 more] w fun r w' => r = .returned (.bool true) ∧ Below w.heap.size w w' := by
  obtain ⟨w1, e1⟩ : ∃ w1, w1 = w.alloc (insO i) := ⟨_, rfl⟩
  obtain ⟨-, n1, b1⟩ := new_size e1
  have HL := Lib.hid (hL.below b1)
  have B1 := Lib.hid b1
  have N1 := Lib.hid n1
  have AW := Lib.hid (fun w' (h' : IsL w') => awake10_any w' h')
  obtain ⟨op, a, b, c, d, k⟩ := i
  obtain ⟨D, hD⟩ : ∃ D, w.heap.size = D := ⟨_, rfl⟩
  rw [hD] at N1
  have HD := Lib.hid hD
  unfold insO at e1
  unfold insV at *
  simp only at *
  clear n1 b1 hL hD
  go_enter Tryd.func7, Tryd.ntmps7
  go_upto_region 3 with fail
  rw [← e1, HD.out]
  clear e1
  by_cases hb : 256 < M ∨ 256 < S
  · rcases hb with hb | hb
    · have hb1 : decide ((256 : Int) < M) = true := by simpa using hb
      clear hS hM hS0 hM0 hb
      go_wp2_with fail
      refine (AW.out w1 HL.out).mono ?_
      rintro r w2 ⟨rfl, h2⟩
      have B2 := Lib.hid (below_on B1.out h2)
      clear h2
      go_wp2_with fail
      go_ret
      exact ⟨rfl, B2.out⟩
    · have hb1 : decide ((256 : Int) < S) = true := by simpa using hb
      clear hS hM hS0 hM0 hb
      by_cases hb : 256 < M
      · have hb2 : decide ((256 : Int) < M) = true := by simpa using hb
        clear hb
        go_wp2_with fail
        refine (AW.out w1 HL.out).mono ?_
        rintro r w2 ⟨rfl, h2⟩
        have B2 := Lib.hid (below_on B1.out h2)
        clear h2
        go_wp2_with fail
        go_ret
        exact ⟨rfl, B2.out⟩
      · have hb2 : decide ((256 : Int) < M) = false := by simpa using hb
        clear hb
        go_wp2_with fail
        refine (AW.out w1 HL.out).mono ?_
        rintro r w2 ⟨rfl, h2⟩
        have B2 := Lib.hid (below_on B1.out h2)
        clear h2
        go_wp2_with fail
        go_ret
        exact ⟨rfl, B2.out⟩
  have hb1 : decide ((256 : Int) < M) = false := by simp; omega
  have hb2 : decide ((256 : Int) < S) = false := by simp; omega
  have hsm : S + M ≤ 512 := by omega
  have hsm0 : 0 ≤ S + M := by omega
  have hwr : IntKind.i64.wrap (S + M) = S + M := by
    rw [IntKind.wrap_i64]; omega
  clear hS hM hb hsm hsm0
  go_upto_region 5 with fail
  obtain ⟨w2, ew2⟩ : ∃ w2, w2 = w1 := ⟨_, rfl⟩
  rw [← ew2] at HL B1 N1 ⊢
  clear ew2
  clear hS0 hM0
  refine wp_region_rel [.is (.agg #[.int .i64 op, .int .i64 a, .int .i64 b, .int .i64 c, .int .i64 d, .int .u32 (k : Int)]), .is (.int .i64 S), .is (.int .i64 ra), .is (.agg #[.int .i64 op, .int .i64 a, .int .i64 b, .int .i64 c, .int .i64 d, .int .u32 (k : Int)]), .is (.int .i64 S), .is (.int .i64 rb), .is (.int .i64 ra), .is (.int .i64 rb)]
    (fun w' => Below w2.heap.size w2 w') [(0, 20), (1, 21), (2, 22), (3, 23), (4, 24), (5, 25), (6, 7), (7, 8)] 8 (by kernel_rfl) (by kernel_rfl) (by kernel_rfl) (by kernel_rfl) ?hC ?hs ?hf
  case hC => exact below_drew (Below.refl _ _)
  case hs =>
    refine stepsOk_succ ?s7 (stepsOk_succ ?s6 (stepsOk_succ ?s5 (stepsOk_succ ?s4 (stepsOk_succ ?s3 (stepsOk_succ ?s2 (stepsOk_succ ?s1 (stepsOk_succ ?s0 (stepsOk_zero))))))))
    case s0 =>
      refine stepOk0 rfl (by kernel_rfl) ?_
      rintro w' hC
      intro K hK
      obtain ⟨c0, c1, c2, c3, c4, c5⟩ := inscells (blk_on hC N1.out)
      simp only at c0 c1 c2 c3 c4 c5
      go_simp
      exact hK _ _ rfl ⟨rfl, hC, Below.refl _ _⟩
    case s1 =>
      refine stepOk0 rfl (by kernel_rfl) ?_
      rintro w' hC
      intro K hK
      go_simp
      exact hK _ _ rfl ⟨rfl, hC, Below.refl _ _⟩
    case s2 =>
      refine stepOk2 0 20 1 21 rfl (by kernel_rfl) ?_
      rintro w' hC v1 v2 rfl rfl
      intro K hK
      go_simp
      refine (HA.out w' (HL.out.below hC)).mono ?_
      rintro e w2 ⟨rfl, h1⟩
      exact hK _ _ rfl ⟨rfl, below_on hC h1, h1⟩
    case s3 =>
      refine stepOk0 rfl (by kernel_rfl) ?_
      rintro w' hC
      intro K hK
      obtain ⟨c0, c1, c2, c3, c4, c5⟩ := inscells (blk_on hC N1.out)
      simp only at c0 c1 c2 c3 c4 c5
      go_simp
      exact hK _ _ rfl ⟨rfl, hC, Below.refl _ _⟩
    case s4 =>
      refine stepOk0 rfl (by kernel_rfl) ?_
      rintro w' hC
      intro K hK
      go_simp
      exact hK _ _ rfl ⟨rfl, hC, Below.refl _ _⟩
    case s5 =>
      refine stepOk2 3 23 4 24 rfl (by kernel_rfl) ?_
      rintro w' hC v1 v2 rfl rfl
      intro K hK
      go_simp
      refine (HB.out w' (HL.out.below hC)).mono ?_
      rintro e w2 ⟨rfl, h1⟩
      exact hK _ _ rfl ⟨rfl, below_on hC h1, h1⟩
    case s6 =>
      refine stepOk1 2 22 rfl (by kernel_rfl) ?_
      rintro w' hC v1 rfl
      intro K hK
      go_simp
      exact hK _ _ rfl ⟨rfl, hC, Below.refl _ _⟩
    case s7 =>
      refine stepOk1 5 25 rfl (by kernel_rfl) ?_
      rintro w' hC v1 rfl
      intro K hK
      go_simp
      exact hK _ _ rfl ⟨rfl, hC, Below.refl _ _⟩
  case hf =>
    intro w' hC x_ hx
    have e0 : x_ 20 = (.agg #[.int .i64 op, .int .i64 a, .int .i64 b, .int .i64 c, .int .i64 d, .int .u32 (k : Int)]) := hx (0, 20) (by simp)
    have e1 : x_ 21 = (.int .i64 S) := hx (1, 21) (by simp)
    have e2 : x_ 22 = (.int .i64 ra) := hx (2, 22) (by simp)
    have e3 : x_ 23 = (.agg #[.int .i64 op, .int .i64 a, .int .i64 b, .int .i64 c, .int .i64 d, .int .u32 (k : Int)]) := hx (3, 23) (by simp)
    have e4 : x_ 24 = (.int .i64 S) := hx (4, 24) (by simp)
    have e5 : x_ 25 = (.int .i64 rb) := hx (5, 25) (by simp)
    have e6 : x_ 7 = (.int .i64 ra) := hx (6, 7) (by simp)
    have e7 : x_ 8 = (.int .i64 rb) := hx (7, 8) (by simp)
    simp only [putAll, List.foldl_cons, List.foldl_nil, e0, e1, e2, e3, e4, e5, e6, e7, Act.put, List.setIfInBounds_toArray, List.set_cons_succ, List.set_cons_zero]
    clear hx e0 e1 e2 e3 e4 e5 e6 e7
    have B4 := Lib.hid (below_on B1.out hC)
    have L4 := Lib.hid (HL.out.below hC)
    have n4 := blk_on hC N1.out
    have N4 := Lib.hid n4
    obtain ⟨c0, c1, c2, c3, c4, c5⟩ := inscells n4
    simp only at c0 c1 c2 c3 c4 c5
    clear hC n4 HA HB B1 HL N1
    rcases Classical.em (ra = 0) with za | za <;> rcases Classical.em (rb = 0) with zb | zb
    · obtain rfl := tac.out za
      obtain rfl := tbd.out zb
      subst za
      subst zb
      clear tac tbd tab
      go_wp2_with fail
      refine (AW.out _ L4.out).mono ?_
      rintro r w6 ⟨rfl, h6⟩
      have P9 := Lib.hid (below_on B4.out h6)
      have M9 := Lib.hid (L4.out.below h6)
      have n6 := blk_on h6 N4.out
      have O9 := Lib.hid n6
      clear c0 c1 c2 c3 c4 c5 B4 L4 N4 h6 AW
      obtain ⟨c0, c1, c2, c3, c4, c5⟩ := inscells n6
      simp only at c0 c1 c2 c3 c4 c5
      clear n6
      have B4 := P9
      have L4 := M9
      have N4 := O9
      clear P9 M9 O9
      go_wp2_with fail
      refine (HC.out _ (L4.out)).mono ?_
      rintro r v0 ⟨rfl, h5⟩
      have P0 := Lib.hid (below_on B4.out h5)
      have M0 := Lib.hid (L4.out.below h5)
      have n5 := blk_on h5 N4.out
      have O0 := Lib.hid n5
      obtain ⟨c0, c1, c2, c3, c4, c5⟩ := inscells n5
      simp only at c0 c1 c2 c3 c4 c5
      clear B4 L4 N4 n5 h5
      go_wp2_with fail
      refine (HE.out _ (M0.out)).mono ?_
      rintro r v1 ⟨rfl, h5⟩
      have P1 := Lib.hid (below_on P0.out h5)
      have M1 := Lib.hid (M0.out.below h5)
      have n5 := blk_on h5 O0.out
      have O1 := Lib.hid n5
      obtain ⟨c0, c1, c2, c3, c4, c5⟩ := inscells n5
      simp only at c0 c1 c2 c3 c4 c5
      clear P0 M0 O0 n5 h5
      go_wp2_with fail
      go_ret
      exact ⟨rfl, P1.out⟩
    · obtain rfl := tac.out za
      have ho : op = 38 := by
        refine Classical.byContradiction fun hn => zb (tab.out za hn)
      subst ho
      subst za
      have zb' : (rb != 0) = true := by simpa using zb
      clear tac tbd tab zb
      go_wp2_with fail
      refine (AW.out _ L4.out).mono ?_
      rintro r w6 ⟨rfl, h6⟩
      have P9 := Lib.hid (below_on B4.out h6)
      have M9 := Lib.hid (L4.out.below h6)
      have n6 := blk_on h6 N4.out
      have O9 := Lib.hid n6
      clear c0 c1 c2 c3 c4 c5 B4 L4 N4 h6 AW
      obtain ⟨c0, c1, c2, c3, c4, c5⟩ := inscells n6
      simp only at c0 c1 c2 c3 c4 c5
      clear n6
      have B4 := P9
      have L4 := M9
      have N4 := O9
      clear P9 M9 O9
      go_wp2_with fail
      refine (HC.out _ (L4.out)).mono ?_
      rintro r v0 ⟨rfl, h5⟩
      have P0 := Lib.hid (below_on B4.out h5)
      have M0 := Lib.hid (L4.out.below h5)
      have n5 := blk_on h5 N4.out
      have O0 := Lib.hid n5
      obtain ⟨c0, c1, c2, c3, c4, c5⟩ := inscells n5
      simp only at c0 c1 c2 c3 c4 c5
      clear B4 L4 N4 n5 h5
      go_wp2_with fail
      go_ret
      exact ⟨rfl, P0.out⟩
    · obtain rfl := tbd.out zb
      subst zb
      have za' : (ra == 0) = false := by simpa using za
      have za2 : (ra != 0) = true := by simpa using za
      clear tac tbd tab za
      go_wp2_with fail
      refine (AW.out _ L4.out).mono ?_
      rintro r w6 ⟨rfl, h6⟩
      have P9 := Lib.hid (below_on B4.out h6)
      have M9 := Lib.hid (L4.out.below h6)
      have n6 := blk_on h6 N4.out
      have O9 := Lib.hid n6
      clear c0 c1 c2 c3 c4 c5 B4 L4 N4 h6 AW
      obtain ⟨c0, c1, c2, c3, c4, c5⟩ := inscells n6
      simp only at c0 c1 c2 c3 c4 c5
      clear n6
      have B4 := P9
      have L4 := M9
      have N4 := O9
      clear P9 M9 O9
      go_wp2_with fail
      refine (HE.out _ (L4.out)).mono ?_
      rintro r v0 ⟨rfl, h5⟩
      have P0 := Lib.hid (below_on B4.out h5)
      have M0 := Lib.hid (L4.out.below h5)
      have n5 := blk_on h5 N4.out
      have O0 := Lib.hid n5
      obtain ⟨c0, c1, c2, c3, c4, c5⟩ := inscells n5
      simp only at c0 c1 c2 c3 c4 c5
      clear B4 L4 N4 n5 h5
      go_wp2_with fail
      go_ret
      exact ⟨rfl, P0.out⟩
    · have za' : (ra == 0) = false := by simpa using za
      have za2 : (ra != 0) = true := by simpa using za
      have zb' : (rb != 0) = true := by simpa using zb
      clear tac tbd tab za zb
      go_wp2_with fail
      refine (AW.out _ L4.out).mono ?_
      rintro r w6 ⟨rfl, h6⟩
      have P9 := Lib.hid (below_on B4.out h6)
      have M9 := Lib.hid (L4.out.below h6)
      have n6 := blk_on h6 N4.out
      have O9 := Lib.hid n6
      clear c0 c1 c2 c3 c4 c5 B4 L4 N4 h6 AW
      obtain ⟨c0, c1, c2, c3, c4, c5⟩ := inscells n6
      simp only at c0 c1 c2 c3 c4 c5
      clear n6
      have B4 := P9
      have L4 := M9
      have N4 := O9
      clear P9 M9 O9
      go_wp2_with fail
      go_ret
      exact ⟨rfl, B4.out⟩

theorem walk (i : Ins) (f : InsFits i) (size : Int) (w1 : (Lit.int .i64 size).wf = true) (more : Int) (w2 : (Lit.int .i64 more).wf = true) (w : World) (hL : IsL w) :
    Calls Tryd.prog 7 #[insV i, .int .i64 size, .int .i64 more] w fun r w' => r = .returned (.bool true) ∧ Below w.heap.size w w' := by
  have m0 : 0 ≤ (if more < 0 then 0 else more) := by split <;> omega
  refine walk_at i size more _ _ rfl rfl (by split <;> omega) m0 _ _ _ _ w hL (Lib.hid (fun w' h' => icheck_any i f.k _ true w' h')) (Lib.hid (fun w' h' => icheck_any i f.k _ false w' h')) (Lib.hid (fun w' h' => icheck_any i f.k _ true w' h')) (Lib.hid (fun w' h' => icheck_any i f.k _ false w' h')) (Lib.hid (fun h => check_longer (by omega) h)) (Lib.hid (fun h => check_longer (by omega) h)) (Lib.hid (fun h hn => check_task hn h))

theorem own : ownKnob Tryd.prog.godebug = none := by kernel_rfl
theorem laidOut : laidOutB Tryd.prog = true := by kernel_rfl

set_option maxRecDepth 100000 in
theorem lifted (os : Os) (started : os.Started) (H : Type) (enc : TypeId × Value → H) :
    ReturnsInHanded {} Tryd.checked os 7 .any (fun w args => (Rows.isaWaysSpec.pre enc Tryd.prog Tryd.f7 Rows.isaWaysRow.domain false w args ∧ laidMetH Tryd.prog laidL w) ∧ sizedMet enc Tryd.prog Tryd.f7 (OpenSpec.ofChange Rows.isaWaysSpec) false w args) (Rows.isaWaysSpec.post enc Tryd.prog Tryd.f7 false true false false) := by
  refine returnsInHanded_of_row (s := OpenSpec.ofChange Rows.isaWaysSpec) (F := fun _ _ _ => 0) (laid := laidL) (C := Tryd.checked) own started (by kernel_rfl) Tryd.func7
    (ChangeSpec.witness_shaped (enc := enc) (C := Tryd.checked) (os := os) (s := Rows.isaWaysSpec) (X := fun w _ => laidMetH Tryd.prog laidL w) false (World.laidAll Tryd.prog os laidL) #[.agg #[.int .i64 0, .int .i64 0, .int .i64 0, .int .i64 0, .int .i64 0, .int .u32 0], .int .i64 0, .int .i64 0] 8 (World.laidAll_os _ _ _)
      (World.shaped_of_ZipB (by kernel_rfl) (by kernel_rfl)) (by kernel_rfl) (by kernel_rfl) (by kernel_rfl)
      (by rw [MakeChecks.laidMetH_plain _ _ _ (by kernel_rfl)]; exact laidMet_laidAll _ (by kernel_rfl) (by kernel_rfl))) ?_
  intro W base args ds gs before hval0 hW hcnd _ hsz0 hL hsh _
  have hval : ∀ (j : Nat) t v, Tryd.f7.params[j]? = some t → args[j]? = some v → Value.okWide Tryd.prog W .any base t v := hval0
  have hW' := hW
  obtain ⟨p, q, hA0, hV, rfl, hfz, hnd⟩ := hW
  have hA : DataW.TrodAll enc Tryd.prog W 0 (fun _ => true) true Tryd.f7.params.toList args.toList ds p := hA0
  rw [Tryd.params7] at hA hval
  obtain ⟨v0, vs0, d0, ds0, p0, q0, hargs, rfl, rfl, h0, r0⟩ := trodAll_cons hA
  obtain ⟨v1, vs1, d1, ds1, p1, q1, rfl, rfl, rfl, h1, r1⟩ := trodAll_cons r0
  obtain ⟨v2, vs2, d2, ds2, p2, q2, rfl, rfl, rfl, h2, r2⟩ := trodAll_cons r1
  obtain ⟨rfl, rfl, rfl⟩ := trodAll_nil r2
  obtain rfl : args = #[v0, v1, v2] := by cases args; simp_all
  obtain ⟨rfl, rfl⟩ := trodVars_none hV
  have k0 := h0
  have lt0 : ∀ x ∈ p0, x.block < W.heap.size := by obtain ⟨m, hm⟩ := k0; exact DataW.trod_lt m _ _ _ hm
  have k1 := h1
  have lt1 : ∀ x ∈ p1, x.block < W.heap.size := by obtain ⟨m, hm⟩ := k1; exact DataW.trod_lt m _ _ _ hm
  have k2 := h2
  have lt2 : ∀ x ∈ p2, x.block < W.heap.size := by obtain ⟨m, hm⟩ := k2; exact DataW.trod_lt m _ _ _ hm
  obtain ⟨a0, rfl, w0⟩ := open_ins (hval 0 24 v0 rfl rfl) h0
  obtain ⟨a1, rfl, rfl, rfl, w1⟩ := open_int Tryd.underlying3 (hval 1 3 v1 rfl rfl) h1
  obtain ⟨a2, rfl, rfl, rfl, w2⟩ := open_int Tryd.underlying3 (hval 2 3 v2 rfl rfl) h2
  clear hA0 hval0
  refine (walk a0 w0 a1 w1 a2 w2 W (of_laid hL hsh)).mono fun e W' ⟨he, bel⟩ => ?_
  subst he
  exact ⟨_, rfl, _, _, _, [], _, [], hW', trodAll_mk1 (shut_bool Tryd.underlying4 _), (trodAll_cons_mk (Below.trod laidOut (by kernel_rfl) (of_decide_eq_true (by kernel_rfl)) k0 bel lt0) (trodAll_cons_mk (Below.trod laidOut (by kernel_rfl) (of_decide_eq_true (by kernel_rfl)) k1 bel lt1) (trodAll_cons_mk (Below.trod laidOut (by kernel_rfl) (of_decide_eq_true (by kernel_rfl)) k2 bel lt2) trodAll_mk0))), rfl, bel.frame _, fun h => by cases h⟩

theorem over : Rows.IsaWaysSaid :=
  OpenClaim.holds_of_wide 7 Tryd.f7 rfl rfl rfl rfl rfl rfl rfl ⟨rfl, rfl, rfl, rfl, rfl⟩ rfl rfl rfl rfl rfl (by kernel_rfl) Tryd.func7 (by kernel_rfl)
    (of_decide_eq_true (by kernel_rfl)) (by unfold Func.isWrapper; first | (rw [if_pos (by decide +kernel)]; kernel_rfl) | (rw [if_neg (by decide +kernel)]; exact ⟨rfl, rfl⟩))
    (fun os started H enc _ => lifted os started H enc)

theorem proved : Rows.IsaWaysCardSaid :=
  Claim7.holds_tied_plain_at .later [] _ true _ false over (fun _ h => by cases h) (by kernel_rfl) (fun _ h => by cases h) isaWays_row_tie rfl ⟨rfl, rfl⟩ (by kernel_rfl) rfl
    (fun f fn hf hfn => by
      obtain rfl : f = 7 := Option.some.inj ((show Tryd.prog.funcNamed "taffrail/taffraillaw10.IsaWays" = some 7 by kernel_rfl).symm.trans hf) |>.symm
      obtain rfl : fn = Tryd.f7 := (Option.some.inj (Tryd.func7.symm.trans hfn)).symm
      refine ⟨by kernel_rfl, fun j t ht => ?_⟩
      rw [Tryd.params7] at ht
      have hm : t ∈ [24, 3, 3] := by simpa using Array.mem_of_getElem? ht
      have hall : ([24, 3, 3].all fun u => !Tryd.prog.wantsStandIn u) = true := by kernel_rfl
      exact (show Tryd.prog.wantsStandIn t = false by simpa using List.all_eq_true.1 hall t hm))
    (by kernel_rfl)
#print axioms proved

end Go.Proofs.YtgbldgoaocfljaaDoor.IsaWays
