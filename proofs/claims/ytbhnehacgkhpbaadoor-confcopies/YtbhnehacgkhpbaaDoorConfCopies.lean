/-
  ConfCopies: for every system and two numbers the statement's function answers true: a copy is the same, and shares nothing: what is changed in it leaves the other as it was (systems beyond the statement's own bound are let go by the statement itself). Conditions: none beyond the card's own: the listed package variables start as the program's text lays them, which the card ties to that text.
-/
import Derived.Test.YtbhnehacgkhpbaaDoorCfAw
import Derived.Test.YtbhnehacgkhpbaaDoorCfP
import Derived.Test.YtbhnehacgkhpbaaDoorCfU
import Derived.Test.YtbhnehacgkhpbaaDoorCfG
import Derived.Test.YtbhnehacgkhpbaaDoorIsLw
import Derived.Test.YtbhnehacgkhpbaaDoorRel
import Derived.Test.YtbhnehacgkhpbaaDoorTie
import Derived.Test.YtbhnehacgkhpbaaDoorCards
import Derived.ProofKit
import Derived.OpenShut
import Derived.ShutString
import Derived.LaidMore
import Derived.Lay
import Derived.SevenTiedAt
import Derived.Stop.Joined
import Derived.Deep.DeepHandedRow
import Derived.BigRegion
import Derived.Deep.RegionWith
import Derived.Deep.DeepCutAuto
namespace Go.Proofs.YtbhnehacgkhpbaaDoor.ConfCopies
open Go.ChangeShapes Go.WideShapes Go.ChangeAt Go.RowKit
open Go.ChangeMaps (open_string shut_string)
set_option linter.unusedVariables false
set_option linter.unusedSimpArgs false

set_option maxRecDepth 100000 in
set_option maxHeartbeats 16000000 in
theorem walk_at (cx : CfgV) (i k : Int) (z : Bool) {w : World}
    (HA : Hid (∀ w', IsL w' → Calls Tryd.prog 8 #[] w' fun r w'' => r = .returned (.bool true) ∧ Below w'.heap.size w' w''))
    (HG : Hid (∀ w', SeenC w' cx → Calls Tryd.prog 9 #[cfV cx] w' fun r w'' => r = .returned (.bool z) ∧ Below w'.heap.size w' w''))
    (HSm : Hid (z = false → Small cx))
    (hs : SeenC w cx) (hL : IsL w) : Calls Tryd.prog 4 #[cfV cx, .int .i64 i, .int .i64 k] w fun r w' => r = .returned (.bool true) ∧ Below w.heap.size w w' := by
  obtain ⟨w2, e1⟩ : ∃ w1, w1 = w.alloc (cfO cx) := ⟨_, rfl⟩
  obtain ⟨s1, n1, b1⟩ := new_size e1
  obtain ⟨D, hD⟩ : ∃ D, w.heap.size = D := ⟨_, rfl⟩
  rw [hD] at n1
  have N1 := Lib.hid n1
  have B2 := Lib.hid b1
  have HD := Lib.hid hD
  have S1 := Lib.hid (hs.below b1)
  have L1 := Lib.hid (hL.below b1)
  have KA : Hid (∀ w', Below w2.heap.size w2 w' → Calls Tryd.prog 8 #[] w' fun r w'' => r = .returned (.bool true) ∧ Below w'.heap.size w' w'') := Lib.hid (fun w' h => HA.out w' (L1.out.below h))
  have KG : Hid (∀ w', Below w2.heap.size w2 w' → Calls Tryd.prog 9 #[cfV cx] w' fun r w'' => r = .returned (.bool z) ∧ Below w'.heap.size w' w'') := Lib.hid (fun w' h => HG.out w' (S1.out.below h))
  have KC : Hid (z = false → ∀ w', Below w2.heap.size w2 w' → Calls Tryd.prog 12 #[cfV cx] w' fun r w'' => ∃ y : CfgV, r = .returned (cfV y) ∧ y.c = cx.c ∧ OwnC w'' w'.heap.size y ∧ Below w'.heap.size w' w'') := Lib.hid (fun hz w' h => copy_walk cx w' (S1.out.below h) (HSm.out hz))
  clear HA HG hs hL s1 n1 b1 hD HSm
  unfold cfV cfCells at KG KC
  unfold cfO cfCells at e1
  unfold cfV cfCells
  have BR : Hid (Below w2.heap.size w2 w2) := Lib.hid (Below.refl _ _)
  go_enter Tryd.func4, Tryd.ntmps4
  go_upto_region 1 with fail
  rw [← e1, HD.out]
  clear e1
  go_wp2_with fail
  refine (KA.out w2 BR.out).mono ?_
  rintro r w3 ⟨rfl, h⟩
  have B3 := Lib.hid (below_on BR.out h)
  clear h
  obtain ⟨c0, c1, c2, c3, c4, c5, c6, c7, c8, c9, c10, c11⟩ := cfcells (blk_on B3.out N1.out)
  go_wp2_with fail
  refine (KG.out w3 B3.out).mono ?_
  rintro r w0 ⟨rfl, h⟩
  have B4 := Lib.hid (below_on B3.out h)
  clear h c0 c1 c2 c3 c4 c5 c6 c7 c8 c9 c10 c11 KG
  cases z
  case true =>
    clear KC
    go_wp2_with fail
    refine (KA.out w0 B4.out).mono ?_
    rintro r wz ⟨rfl, hz⟩
    have BZ := Lib.hid (below_on B2.out (below_on B4.out hz))
    clear hz
    go_wp2_with fail
    go_ret
    exact ⟨rfl, BZ.out⟩
  have HCP := Lib.hid (fun w' (h : Below w0.heap.size w0 w') => KC.out rfl w' (below_on B4.out h))
  obtain ⟨DD, hDD⟩ : ∃ DD, w0.heap.size = DD := ⟨_, rfl⟩
  have HD0 := Lib.hid hDD
  have N0 := Lib.hid (blk_on B4.out N1.out)
  have S0 := Lib.hid (S1.out.below B4.out)
  have B0 := Lib.hid (below_on B2.out B4.out)
  clear KC hDD KA S1 L1 N1 B2 B3 B4 BR
  go_upto_region 3 with fail
  refine wp_region_inv (twoR DD cx)
    (fun u => Below w0.heap.size w0 u) (StB DD) (fun _ _ _ => True) (fun l sv u => TwoJ DD cx.c (fun j => l.getD j false) (sv 18) (sv 20) (sv 7) (sv 8) u) [(0, 17), (1, 18), (2, 19), (3, 20), (4, 7), (5, 8)] 8 (by kernel_rfl) (by kernel_rfl) (by kernel_rfl) (by kernel_rfl) ?hC ?hI ?hR ?hF ?hloc ?hs ?hf
  case hC => exact below_drew (Below.refl _ _)
  case hI => exact twoJ_start _ _ _ _ _ _ _
  case hR => exact fun j v u u' _ hg h => twoR_step j v u u' hg h
  case hF => exact fun _ _ _ _ _ _ _ => trivial
  case hloc => exact fun _ _ _ _ _ _ _ _ => trivial
  case hs =>
    refine stepsI_succ ?s7 (stepsI_succ ?s6 (stepsI_succ ?s5 (stepsI_succ ?s4 (stepsI_succ ?s3 (stepsI_succ ?s2 (stepsI_succ ?s1 (stepsI_succ ?s0 (stepsI_zero))))))))
    case s0 =>
      refine stepI0 rfl (by kernel_rfl) ?_
      rintro w' hC sv
      intro K hK
      obtain ⟨c0, c1, c2, c3, c4, c5, c6, c7, c8, c9, c10, c11⟩ := cfcells (blk_on hC N0.out)
      go_simp
      exact hK _ _ rfl ⟨rfl, hC, .inl (Below.refl _ _), trivial, fun l hl hn _ _ hi => hl.same (Below.refl _ _) ⟨by rw [set_at _ _ _ (by rw [hn]; decide), if_neg (by decide)], by rw [set_at _ _ _ (by rw [hn]; decide), if_neg (by decide)], by rw [set_at _ _ _ (by rw [hn]; decide), if_neg (by decide)], by rw [set_at _ _ _ (by rw [hn]; decide), if_neg (by decide)], by rw [set_at _ _ _ (by rw [hn]; decide), if_neg (by decide)], by rw [set_at _ _ _ (by rw [hn]; decide), if_neg (by decide)]⟩⟩
    case s2 =>
      refine stepI0 rfl (by kernel_rfl) ?_
      rintro w' hC sv
      intro K hK
      obtain ⟨c0, c1, c2, c3, c4, c5, c6, c7, c8, c9, c10, c11⟩ := cfcells (blk_on hC N0.out)
      go_simp
      exact hK _ _ rfl ⟨rfl, hC, .inl (Below.refl _ _), trivial, fun l hl hn _ _ hi => hl.same (Below.refl _ _) ⟨by rw [set_at _ _ _ (by rw [hn]; decide), if_neg (by decide)], by rw [set_at _ _ _ (by rw [hn]; decide), if_neg (by decide)], by rw [set_at _ _ _ (by rw [hn]; decide), if_neg (by decide)], by rw [set_at _ _ _ (by rw [hn]; decide), if_neg (by decide)], by rw [set_at _ _ _ (by rw [hn]; decide), if_neg (by decide)], by rw [set_at _ _ _ (by rw [hn]; decide), if_neg (by decide)]⟩⟩
    case s1 =>
      refine stepI1 0 17 rfl (by kernel_rfl) ?_
      rintro w' hC sv v1 - rfl
      intro K hK
      unfold cfV cfCells
      go_simp
      refine (HCP.out w' hC).mono ?_
      rintro e w2 ⟨y, rfl, hyc, hyo, hyb⟩
      exact hK _ _ rfl ⟨⟨y, rfl, hyc, hyo.mono (by rw [← HD0.out]; exact hC.size)⟩, below_on hC hyb, .inl hyb, trivial, fun l hl hn hdn _ hi => hl.call1 hyb ⟨by rw [set_at _ _ _ (by rw [hn]; decide), if_neg (by decide)], by rw [set_at _ _ _ (by rw [hn]; decide), if_neg (by decide)], by rw [set_at _ _ _ (by rw [hn]; decide), if_neg (by decide)], by rw [set_at _ _ _ (by rw [hn]; decide), if_neg (by decide)], by rw [set_at _ _ _ (by rw [hn]; decide), if_neg (by decide)]⟩ (by
        cases hq : l.getD 6 false with
        | false => rfl
        | true =>
          have := down_of hdn 6 1 (by kernel_rfl) (by rw [getD_bool l 6 (by rw [hn]; decide) true false]; exact hq)
          rw [getD_bool l 1 (by rw [hn]; decide) false true, hi] at this
          cases this) rfl hyc hyo (by rw [← HD0.out]; exact hC.size)⟩
    case s3 =>
      refine stepI1 2 19 rfl (by kernel_rfl) ?_
      rintro w' hC sv v1 - rfl
      intro K hK
      unfold cfV cfCells
      go_simp
      refine (HCP.out w' hC).mono ?_
      rintro e w2 ⟨y, rfl, hyc, hyo, hyb⟩
      exact hK _ _ rfl ⟨⟨y, rfl, hyc, hyo.mono (by rw [← HD0.out]; exact hC.size)⟩, below_on hC hyb, .inl hyb, trivial, fun l hl hn hdn _ hi => hl.call3 hyb ⟨by rw [set_at _ _ _ (by rw [hn]; decide), if_neg (by decide)], by rw [set_at _ _ _ (by rw [hn]; decide), if_neg (by decide)], by rw [set_at _ _ _ (by rw [hn]; decide), if_neg (by decide)], by rw [set_at _ _ _ (by rw [hn]; decide), if_neg (by decide)], by rw [set_at _ _ _ (by rw [hn]; decide), if_neg (by decide)]⟩ (by
        cases hq : l.getD 7 false with
        | false => rfl
        | true =>
          have := down_of hdn 7 3 (by kernel_rfl) (by rw [getD_bool l 7 (by rw [hn]; decide) true false]; exact hq)
          rw [getD_bool l 3 (by rw [hn]; decide) false true, hi] at this
          cases this) rfl hyc hyo (by rw [← HD0.out]; exact hC.size)⟩
    case s4 =>
      refine stepI0 rfl (by kernel_rfl) ?_
      rintro w' hC sv
      intro K hK
      go_simp
      obtain ⟨wn, en⟩ : ∃ wn, wn = w'.alloc (.cells zeroA 28) := ⟨_, rfl⟩
      obtain ⟨sn, nn, bn⟩ := new_size en
      unfold zeroA at en
      rw [← en]
      have hbx : BoxAt wn DD w'.heap.size := boxAt_zero (by rw [← HD0.out]; exact hC.size) nn
      exact hK _ _ rfl ⟨⟨_, rfl, hbx⟩, below_on hC bn, .inl bn, trivial, fun l hl hn hdn _ hi => hl.new4 bn ⟨by rw [set_at _ _ _ (by rw [hn]; decide), if_neg (by decide)], by rw [set_at _ _ _ (by rw [hn]; decide), if_neg (by decide)], by rw [set_at _ _ _ (by rw [hn]; decide), if_neg (by decide)], by rw [set_at _ _ _ (by rw [hn]; decide), if_neg (by decide)], by rw [set_at _ _ _ (by rw [hn]; decide), if_neg (by decide)]⟩ (by
        cases hq : l.getD 6 false with
        | false => rfl
        | true =>
          have := down_of hdn 6 4 (by kernel_rfl) (by rw [getD_bool l 6 (by rw [hn]; decide) true false]; exact hq)
          rw [getD_bool l 4 (by rw [hn]; decide) false true, hi] at this
          cases this) hbx⟩
    case s5 =>
      refine stepI0 rfl (by kernel_rfl) ?_
      rintro w' hC sv
      intro K hK
      go_simp
      obtain ⟨wn, en⟩ : ∃ wn, wn = w'.alloc (.cells zeroA 28) := ⟨_, rfl⟩
      obtain ⟨sn, nn, bn⟩ := new_size en
      unfold zeroA at en
      rw [← en]
      have hbx : BoxAt wn DD w'.heap.size := boxAt_zero (by rw [← HD0.out]; exact hC.size) nn
      exact hK _ _ rfl ⟨⟨_, rfl, hbx⟩, below_on hC bn, .inl bn, trivial, fun l hl hn hdn _ hi => hl.new5 bn ⟨by rw [set_at _ _ _ (by rw [hn]; decide), if_neg (by decide)], by rw [set_at _ _ _ (by rw [hn]; decide), if_neg (by decide)], by rw [set_at _ _ _ (by rw [hn]; decide), if_neg (by decide)], by rw [set_at _ _ _ (by rw [hn]; decide), if_neg (by decide)], by rw [set_at _ _ _ (by rw [hn]; decide), if_neg (by decide)]⟩ (by
        cases hq : l.getD 7 false with
        | false => rfl
        | true =>
          have := down_of hdn 7 5 (by kernel_rfl) (by rw [getD_bool l 7 (by rw [hn]; decide) true false]; exact hq)
          rw [getD_bool l 5 (by rw [hn]; decide) false true, hi] at this
          cases this) hbx⟩
    case s6 =>
      refine stepI2 1 18 4 7 rfl (by kernel_rfl) ?_
      rintro w' hC sv v1 v2 e1 e2 ⟨y, rfl, hyc, hyo⟩ ⟨g, rfl, hbx⟩
      intro K hK
      obtain ⟨u0, u1, u2, u3, u4, u5, u6, u7, u8, u9, u10, u11, hh, b0, b1, b2, b3, b4, b5, b6, b7, b8, b9, b10, b11⟩ := boxAt_cells hbx
      have fz := froz12 hh
      have f0 := fz 0; have f1 := fz 1; have f2 := fz 2; have f3 := fz 3; have f4 := fz 4; have f5 := fz 5; have f6 := fz 6; have f7 := fz 7; have f8 := fz 8; have f9 := fz 9; have f10 := fz 10; have f11 := fz 11
      obtain ⟨wn, en⟩ : ∃ wn, wn = cfSt w' g y := ⟨_, rfl⟩
      have hst : StB DD w' wn := .inr ⟨g, y, hbx, en⟩
      have hbw : Below w0.heap.size w0 wn := by rw [en]; exact cfSt_below y hC (by rw [HD0.out]; exact hbx.1)
      have HJ : Hid (∀ (p q : Nat → Bool), TwoJ DD cx.c p (sv 18) (sv 20) (sv 7) (sv 8) w' → q 1 = p 1 ∧ q 3 = p 3 ∧ q 4 = p 4 ∧ q 5 = p 5 ∧ q 7 = p 7 → p 1 = true → p 4 = true → TwoJ DD cx.c q (sv 18) (sv 20) (sv 7) (sv 8) wn) :=
        Lib.hid (fun p q hj hq ha hb => by rw [en]; exact hj.store6 hq ha hb e1.symm e2.symm hbx)
      simp only [cfSt, stN] at en
      unfold cfV cfCells
      clear e1 e2
      go_simp
      rw [← en]
      exact hK _ _ rfl ⟨trivial, hbw, hst, trivial, fun l hl hn hdn hde hi => HJ.out _ _ hl ⟨by rw [set_at _ _ _ (by rw [hn]; decide), if_neg (by decide)], by rw [set_at _ _ _ (by rw [hn]; decide), if_neg (by decide)], by rw [set_at _ _ _ (by rw [hn]; decide), if_neg (by decide)], by rw [set_at _ _ _ (by rw [hn]; decide), if_neg (by decide)], by rw [set_at _ _ _ (by rw [hn]; decide), if_neg (by decide)]⟩ (deps_of hde 1 (by kernel_rfl)) (deps_of hde 4 (by kernel_rfl))⟩
    case s7 =>
      refine stepI2 3 20 5 8 rfl (by kernel_rfl) ?_
      rintro w' hC sv v1 v2 e1 e2 ⟨y, rfl, hyc, hyo⟩ ⟨g, rfl, hbx⟩
      intro K hK
      obtain ⟨u0, u1, u2, u3, u4, u5, u6, u7, u8, u9, u10, u11, hh, b0, b1, b2, b3, b4, b5, b6, b7, b8, b9, b10, b11⟩ := boxAt_cells hbx
      have fz := froz12 hh
      have f0 := fz 0; have f1 := fz 1; have f2 := fz 2; have f3 := fz 3; have f4 := fz 4; have f5 := fz 5; have f6 := fz 6; have f7 := fz 7; have f8 := fz 8; have f9 := fz 9; have f10 := fz 10; have f11 := fz 11
      obtain ⟨wn, en⟩ : ∃ wn, wn = cfSt w' g y := ⟨_, rfl⟩
      have hst : StB DD w' wn := .inr ⟨g, y, hbx, en⟩
      have hbw : Below w0.heap.size w0 wn := by rw [en]; exact cfSt_below y hC (by rw [HD0.out]; exact hbx.1)
      have HJ : Hid (∀ (p q : Nat → Bool), TwoJ DD cx.c p (sv 18) (sv 20) (sv 7) (sv 8) w' → q 1 = p 1 ∧ q 3 = p 3 ∧ q 4 = p 4 ∧ q 5 = p 5 ∧ q 6 = p 6 → p 3 = true → p 5 = true → TwoJ DD cx.c q (sv 18) (sv 20) (sv 7) (sv 8) wn) :=
        Lib.hid (fun p q hj hq ha hb => by rw [en]; exact hj.store7 hq ha hb e1.symm e2.symm hbx)
      simp only [cfSt, stN] at en
      unfold cfV cfCells
      clear e1 e2
      go_simp
      rw [← en]
      exact hK _ _ rfl ⟨trivial, hbw, hst, trivial, fun l hl hn hdn hde hi => HJ.out _ _ hl ⟨by rw [set_at _ _ _ (by rw [hn]; decide), if_neg (by decide)], by rw [set_at _ _ _ (by rw [hn]; decide), if_neg (by decide)], by rw [set_at _ _ _ (by rw [hn]; decide), if_neg (by decide)], by rw [set_at _ _ _ (by rw [hn]; decide), if_neg (by decide)], by rw [set_at _ _ _ (by rw [hn]; decide), if_neg (by decide)]⟩ (deps_of hde 3 (by kernel_rfl)) (deps_of hde 5 (by kernel_rfl))⟩
  case hf =>
    intro w' hC sv hx _ hI
    obtain ⟨l, hl, hn, hj⟩ := hI
    obtain ⟨y1, y2, g, h, eg, eh, hc1, ho1, hc2, ho2, hap, hgD, hhD, hgh, hg1, hg2⟩ := hj.done hl hn
    simp only [putAll, List.foldl_cons, List.foldl_nil, eg, eh, Act.put, List.setIfInBounds_toArray, List.set_cons_succ, List.set_cons_zero]
    clear hx hl hn hj eg eh
    have E1 := Lib.hid hc1
    have E2 := Lib.hid hc2
    have HAP := Lib.hid hap
    have HDl := Lib.hid (Nat.le_of_eq HD0.out)
    have M0 : Hid (MutS w0 DD g h y1 y2 w') := Lib.hid ⟨⟨y1, Same2.refl _, ho1⟩, ho2, hg1, hg2, hC⟩
    have K1 : Hid (∀ wr, Below w'.heap.size w' wr → Calls Tryd.prog 13 #[cfV cx, cfV y1] wr fun r w'' => r = .returned (.bool true) ∧ Below wr.heap.size wr w'') := Lib.hid (fun wr hb => by have := rsame_any cx y1 wr ((S0.out.below hC).below hb) (ho1.seen.below hb); rw [hc1, eqB_refl] at this; exact this)
    have K2 : Hid (∀ wr, Below w'.heap.size w' wr → Calls Tryd.prog 14 #[cfV cx, cfV y1] wr fun r w'' => r = .returned (.bool true) ∧ Below wr.heap.size wr w'') := Lib.hid (fun wr hb => by have := csame_any cx y1 wr ((S0.out.below hC).below hb) (ho1.seen.below hb); rw [hc1, eqB_refl] at this; exact this)
    have m1 := ho1.seen.ts.row.mx
    have m2 := ho1.seen.ls.row.mx
    have m3 := ho1.seen.ss.mx
    unfold maxLen at m1 m2 m3
    have HC0 := Lib.hid hC
    clear hc1 hc2 ho1 ho2 hap hgD hhD hgh hg1 hg2 HCP hC
    unfold cfV cfCells at K1 K2
    obtain ⟨c0, c1, c2, c3, c4, c5, c6, c7, c8, c9, c10, c11⟩ := cfcells (blk_on HC0.out N0.out)
    obtain ⟨d0, d1, d2, d3, d4, d5, d6, d7, d8, d9, d10, d11⟩ := cfcells M0.out.b1
    go_wp2_with fail
    refine (K1.out w' (Below.refl _ _)).mono ?_
    rintro r x1 ⟨rfl, hp⟩
    have P1 := Lib.hid hp
    have M1 := Lib.hid (M0.out.below hp)
    clear hp c0 c1 c2 c3 c4 c5 c6 c7 c8 c9 c10 c11 d0 d1 d2 d3 d4 d5 d6 d7 d8 d9 d10 d11 K1 M0
    obtain ⟨c0, c1, c2, c3, c4, c5, c6, c7, c8, c9, c10, c11⟩ := cfcells (blk_on (below_on HC0.out P1.out) N0.out)
    obtain ⟨d0, d1, d2, d3, d4, d5, d6, d7, d8, d9, d10, d11⟩ := cfcells M1.out.b1
    go_wp2_with fail
    refine (K2.out x1 P1.out).mono ?_
    rintro r x2 ⟨rfl, hp⟩
    have M2 := Lib.hid (M1.out.below hp)
    clear hp c0 c1 c2 c3 c4 c5 c6 c7 c8 c9 c10 c11 d0 d1 d2 d3 d4 d5 d6 d7 d8 d9 d10 d11 K2 M1 P1 HC0
    obtain ⟨A, hA⟩ : ∃ A : Bool, A = decide (0 ≤ i ∧ i < (y1.tasks.length : Int)) := ⟨_, rfl⟩
    have d0 := (cfcells M2.out.b1).c0
    go_upto_region 6 with fail
    go_cut [39] (fun c wx => c = .bool A ∧ Hid (wx = x2))
    case first =>
      by_cases h0 : 0 ≤ i
      · by_cases h1 : i < (y1.tasks.length : Int)
        · have e : A = true := by rw [hA]; simp; omega
          clear hA
          subst e
          go_wp2_with fail
          go_meet
          exact ⟨rfl, Lib.hid rfl⟩
        · have e : A = false := by rw [hA]; simp; omega
          have q1 : decide (i < (y1.tasks.length : Int)) = false := decide_eq_false h1
          clear hA
          subst e
          go_wp2_with fail
          go_meet
          exact ⟨rfl, Lib.hid rfl⟩
      · have e : A = false := by rw [hA]; simp; omega
        have q1 : decide ((0 : Int) ≤ i) = false := decide_eq_false h0
        clear hA
        subst e
        go_wp2_with fail
        go_meet
        exact ⟨rfl, Lib.hid rfl⟩
    case rest =>
    obtain ⟨rfl, hcw⟩ := hcut
    have hw2 := hcw.out
    obtain rfl := hw2.symm
    clear hcw hw2
    have HAi := Lib.hid hA
    clear hA
    go_upto_if 39 with fail
    go_cut [] (fun wx => Hid (MutS w0 DD g h y1 y2 wx))
    case first =>
      cases A
      · go_wp2_with fail
        go_meet
        exact M2
      · have hi := of_decide_eq_true HAi.out.symm
        obtain ⟨i', rfl⟩ : ∃ i' : Nat, i = i' := ⟨i.toNat, by omega⟩
        have hil : i' < y1.tasks.length := by omega
        obtain ⟨gT, lv, hgT, t0, tf, tm⟩ := M2.out.level HDl.out HAP.out i' hil
        rw [hgT] at d0
        have TM := Lib.hid tm
        have hi0 : (0 : Int) ≤ (i' : Int) := by omega
        have hi1 : (i' : Int) < (y1.tasks.length : Int) := by omega
        clear tm hi
        go_upto_region 8 with fail
        obtain ⟨x3, e3⟩ : ∃ x3, x3 = x2.setCell ⟨gT, i' * 6, none⟩ (.int .i64 (wrap64 (lv + 1))) := ⟨_, rfl⟩
        rw [← e3]
        have M3 : Hid (MutS w0 DD g h y1 y2 x3) := Lib.hid (by rw [e3]; exact TM.out _)
        clear e3 TM t0 tf d0 M2
        obtain ⟨gT', ao, len, cap, hgT', t5, hlen, tk⟩ := M3.out.tcode HDl.out HAP.out i' hil
        obtain rfl : gT' = gT := by
          have := hgT'.symm.trans hgT
          simpa using this
        have d0 := (cfcells M3.out.b1).c0
        rw [hgT'] at d0
        have TK := Lib.hid tk
        clear tk
        by_cases k0 : 0 ≤ k
        · obtain ⟨k', rfl⟩ : ∃ k' : Nat, k = k' := ⟨k.toNat, by omega⟩
          by_cases k1 : k' < len
          · obtain ⟨gC, op, hgC, u0, uf, um⟩ := TK.out k' k1
            rw [hgC] at t5
            have UM := Lib.hid um
            have k1' : (k' : Int) < (len : Int) := by omega
            clear um TK
            go_wp2_with fail
            go_meet
            exact Lib.hid (UM.out _)
          · have k1' : decide ((k' : Int) < (len : Int)) = false := decide_eq_false (by omega)
            clear TK
            go_wp2_with fail
            go_meet
            exact M3
        · have k0' : decide ((0 : Int) ≤ k) = false := decide_eq_false k0
          clear TK
          go_wp2_with fail
          go_meet
          exact M3
    case rest =>
    obtain ⟨x4, ex4⟩ : ∃ x, x = wc := ⟨_, rfl⟩
    subst ex4
    have M4 := hcut
    clear hcut M2 HAi d0
    have d1 := (cfcells M4.out.b1).c1
    go_upto_region 10 with fail
    go_cut [98] (fun c wx => ∃ b : Bool, c = .bool b ∧ Hid (wx = x4) ∧ LnS w0 DD g h y1 y2 x4 i k b)
    case first =>
      by_cases h0 : 0 ≤ i
      · obtain ⟨i', rfl⟩ : ∃ i' : Nat, i = i' := ⟨i.toNat, by omega⟩
        by_cases h1 : i' < y1.lines.length
        · have h1' : (i' : Int) < (y1.lines.length : Int) := by omega
          by_cases k0 : 0 ≤ k
          · obtain ⟨k', rfl⟩ : ∃ k' : Nat, k = k' := ⟨k.toNat, by omega⟩
            obtain ⟨gT, ao, len, cap, hgT, t5, hlen, tk⟩ := M4.out.lcode HDl.out HAP.out i' h1
            have TK := Lib.hid tk
            clear tk
            by_cases k1 : k' < len
            · have FT := LnS.yes i' k' rfl rfl h1 hgT t5 hlen k1 (TK.out k' k1)
              have k1' : (k' : Int) < (len : Int) := by omega
              rw [hgT] at d1
              have HF := Lib.hid FT
              clear TK FT
              go_wp2_with fail
              go_meet
              exact ⟨true, rfl, Lib.hid rfl, HF.out⟩
            · have k1' : decide ((k' : Int) < (len : Int)) = false := decide_eq_false (by omega)
              rw [hgT] at d1
              clear TK
              go_wp2_with fail
              go_meet
              exact ⟨false, rfl, Lib.hid rfl, LnS.no⟩
          · have k0' : decide ((0 : Int) ≤ k) = false := decide_eq_false k0
            go_wp2_with fail
            go_meet
            exact ⟨false, rfl, Lib.hid rfl, LnS.no⟩
        · have h1' : decide ((i' : Int) < (y1.lines.length : Int)) = false := decide_eq_false (by omega)
          go_wp2_with fail
          go_meet
          exact ⟨false, rfl, Lib.hid rfl, LnS.no⟩
      · have h0' : decide ((0 : Int) ≤ i) = false := decide_eq_false h0
        go_wp2_with fail
        go_meet
        exact ⟨false, rfl, Lib.hid rfl, LnS.no⟩
    case rest =>
    obtain ⟨b, rfl, hcw, hln⟩ := hcut
    have hw2 := hcw.out
    obtain rfl := hw2.symm
    clear hcw hw2
    have HLN := Lib.hid hln
    clear hln
    go_upto_if 98 with fail
    go_cut [] (fun wx => Hid (MutS w0 DD g h y1 y2 wx))
    case first =>
      cases b
      · go_wp2_with fail
        go_meet
        exact M4
      · obtain ⟨i', k', gT, gC, len, cap, a, rfl, rfl, h1, hgT, t5, hlen, k1, u0, uf, um⟩ := HLN.out rfl
        rw [hgT] at d1
        have UM := Lib.hid um
        have h1' : (i' : Int) < (y1.lines.length : Int) := by omega
        have k1' : (k' : Int) < (len : Int) := by omega
        clear um HLN
        go_wp2_with fail
        go_meet
        exact Lib.hid (UM.out _)
    case rest =>
    obtain ⟨x5, ex5⟩ : ∃ x, x = wc := ⟨_, rfl⟩
    subst ex5
    have M5 := hcut
    clear hcut M4 HLN d1
    have d3 := (cfcells M5.out.b1).c3
    go_wp2_with fail
    clear d3
    go_loopw [115] (fun x wr => ∃ j : Nat, x = .int .i64 j ∧ j ≤ y1.sems.length ∧ Hid (MutS w0 DD g h y1 y2 wr)) (fun x _ => y1.sems.length - (intOf x).toNat)
    case atStart => exact ⟨0, rfl, Nat.zero_le _, M5⟩
    case round =>
      obtain ⟨j, rfl, hj, M6⟩ := hrel
      by_cases hlt : j < y1.sems.length
      · obtain ⟨gS, n, hgS, s0, sf, sm⟩ := M6.out.sem HDl.out HAP.out j hlt
        have d3 := (cfcells M6.out.b1).c3
        rw [hgS] at d3
        have SM := Lib.hid sm
        have hj0 : (0 : Int) ≤ (j : Int) := by omega
        have hj1 : (j : Int) < (y1.sems.length : Int) := by omega
        clear sm
        go_wp2_with fail
        go_roundw
        case rel => exact ⟨j + 1, by go_num, hlt, Lib.hid (SM.out _)⟩
        case measure => simp [intOf]; omega
      · obtain rfl : j = y1.sems.length := by omega
        obtain ⟨y, hy, ho⟩ := M6.out.cur
        have ey : cfV y = cfV y1 := by unfold cfV; rw [hy.1]
        have SX := (S0.out.below M6.out.bel)
        have hs1 := ho.seen
        have hs2 := M6.out.oth.seen
        have K1 : Hid (∀ w', Below wr.heap.size wr w' → Calls Tryd.prog 13 #[cfV cx, cfV y1] w' fun r w'' => r = .returned (.bool (eqB cx.c y.c)) ∧ Below w'.heap.size w' w'') := Lib.hid (fun w' hb => by rw [← ey]; exact rsame_any cx y w' (SX.below hb) (hs1.below hb))
        have K2 : Hid (∀ w', Below wr.heap.size wr w' → Calls Tryd.prog 14 #[cfV cx, cfV y1] w' fun r w'' => r = .returned (.bool (eqB cx.c y.c)) ∧ Below w'.heap.size w' w'') := Lib.hid (fun w' hb => by rw [← ey]; exact csame_any cx y w' (SX.below hb) (hs1.below hb))
        have K3 : Hid (∀ w', Below wr.heap.size wr w' → Calls Tryd.prog 13 #[cfV cx, cfV y2] w' fun r w'' => r = .returned (.bool true) ∧ Below w'.heap.size w' w'') := Lib.hid (fun w' hb => by have := rsame_any cx y2 w' (SX.below hb) (hs2.below hb); rw [E2.out, eqB_refl] at this; exact this)
        have K4 : Hid (∀ w', Below wr.heap.size wr w' → Calls Tryd.prog 14 #[cfV cx, cfV y2] w' fun r w'' => r = .returned (.bool true) ∧ Below w'.heap.size w' w'') := Lib.hid (fun w' hb => by have := csame_any cx y2 w' (SX.below hb) (hs2.below hb); rw [E2.out, eqB_refl] at this; exact this)
        have NC := Lib.hid (blk_on M6.out.bel N0.out)
        have ND := Lib.hid M6.out.b1
        have NE := Lib.hid M6.out.b2
        have BX := Lib.hid (below_on B0.out M6.out.bel)
        generalize eqB cx.c y.c = s at K1 K2
        clear SX hs1 hs2 ey ho hy M6 M5 S0 N0 B0 E1 E2 HAP HDl hj hlt
        unfold cfV cfCells at K1 K2 K3 K4
        go_upto_region 17 with fail
        refine wp_region_rel_end [.is (cfV cx), .is (cfV y2), .is (.bool true), .is (.bool true), .is (cfV cx), .is (cfV y2), .is (.bool true), .is (.bool true), .is (.bool true), .is (cfV cx), .is (cfV y1), .is (.bool s), .is (cfV cx), .is (cfV y1), .is (.bool s), .is (.bool true), .is (.bool true), .is (.bool true)]
          (fun w' => Below wr.heap.size wr w') [(0, 126), (1, 127), (2, 128), (3, 129), (4, 130), (5, 131), (6, 132), (7, 133), (8, 134), (9, 135), (10, 136), (11, 137), (12, 138), (13, 139), (14, 140), (15, 141), (16, 142), (17, 6)] 18 (by kernel_rfl) (by kernel_rfl) (by kernel_rfl) (by kernel_rfl) ?hC ?hs ?hf
        case hC => exact below_drew (Below.refl _ _)
        case hs =>
          refine stepsOk_succ ?s17 (stepsOk_succ ?s16 (stepsOk_succ ?s15 (stepsOk_succ ?s14 (stepsOk_succ ?s13 (stepsOk_succ ?s12 (stepsOk_succ ?s11 (stepsOk_succ ?s10 (stepsOk_succ ?s9 (stepsOk_succ ?s8 (stepsOk_succ ?s7 (stepsOk_succ ?s6 (stepsOk_succ ?s5 (stepsOk_succ ?s4 (stepsOk_succ ?s3 (stepsOk_succ ?s2 (stepsOk_succ ?s1 (stepsOk_succ ?s0 (stepsOk_zero))))))))))))))))))
          case s0 =>
            refine stepOk0 rfl (by kernel_rfl) ?_
            rintro w' hC
            intro K hK
            obtain ⟨c0, c1, c2, c3, c4, c5, c6, c7, c8, c9, c10, c11⟩ := cfcells (blk_on hC NC.out)
            go_simp
            exact hK _ _ rfl ⟨rfl, hC, Below.refl _ _⟩
          case s1 =>
            refine stepOk0 rfl (by kernel_rfl) ?_
            rintro w' hC
            intro K hK
            obtain ⟨c0, c1, c2, c3, c4, c5, c6, c7, c8, c9, c10, c11⟩ := cfcells (blk_on hC NE.out)
            go_simp
            exact hK _ _ rfl ⟨rfl, hC, Below.refl _ _⟩
          case s2 =>
            refine stepOk2 0 126 1 127 rfl (by kernel_rfl) ?_
            rintro w' hC v1 v2 rfl rfl
            intro K hK
            try unfold cfV cfCells
            go_simp
            refine (K3.out w' hC).mono ?_
            rintro e w2 ⟨rfl, h1⟩
            exact hK _ _ rfl ⟨rfl, below_on hC h1, h1⟩
          case s3 =>
            refine stepOk1 2 128 rfl (by kernel_rfl) ?_
            rintro w' hC v1 rfl
            intro K hK
            go_simp
            exact hK _ _ rfl ⟨rfl, hC, Below.refl _ _⟩
          case s4 =>
            refine stepOk1 3 129 rfl (by kernel_rfl) ?_
            rintro w' hC v1 rfl
            intro K hK
            obtain ⟨c0, c1, c2, c3, c4, c5, c6, c7, c8, c9, c10, c11⟩ := cfcells (blk_on hC NC.out)
            go_simp
            exact hK _ _ rfl ⟨rfl, hC, Below.refl _ _⟩
          case s5 =>
            refine stepOk1 3 129 rfl (by kernel_rfl) ?_
            rintro w' hC v1 rfl
            intro K hK
            obtain ⟨c0, c1, c2, c3, c4, c5, c6, c7, c8, c9, c10, c11⟩ := cfcells (blk_on hC NE.out)
            go_simp
            exact hK _ _ rfl ⟨rfl, hC, Below.refl _ _⟩
          case s6 =>
            refine stepOk3 3 129 4 130 5 131 rfl (by kernel_rfl) ?_
            rintro w' hC v1 v2 v3 rfl rfl rfl
            intro K hK
            try unfold cfV cfCells
            go_simp
            refine (K4.out w' hC).mono ?_
            rintro e w2 ⟨rfl, h1⟩
            exact hK _ _ rfl ⟨rfl, below_on hC h1, h1⟩
          case s7 =>
            refine stepOk2 3 129 6 132 rfl (by kernel_rfl) ?_
            rintro w' hC v1 v2 rfl rfl
            intro K hK
            go_simp
            exact hK _ _ rfl ⟨rfl, hC, Below.refl _ _⟩
          case s8 =>
            refine stepOk1 7 133 rfl (by kernel_rfl) ?_
            rintro w' hC v1 rfl
            intro K hK
            go_simp
            exact hK _ _ rfl ⟨rfl, hC, Below.refl _ _⟩
          case s9 =>
            refine stepOk1 8 134 rfl (by kernel_rfl) ?_
            rintro w' hC v1 rfl
            intro K hK
            obtain ⟨c0, c1, c2, c3, c4, c5, c6, c7, c8, c9, c10, c11⟩ := cfcells (blk_on hC NC.out)
            go_simp
            exact hK _ _ rfl ⟨rfl, hC, Below.refl _ _⟩
          case s10 =>
            refine stepOk1 8 134 rfl (by kernel_rfl) ?_
            rintro w' hC v1 rfl
            intro K hK
            obtain ⟨c0, c1, c2, c3, c4, c5, c6, c7, c8, c9, c10, c11⟩ := cfcells (blk_on hC ND.out)
            go_simp
            exact hK _ _ rfl ⟨rfl, hC, Below.refl _ _⟩
          case s11 =>
            refine stepOk3 8 134 9 135 10 136 rfl (by kernel_rfl) ?_
            rintro w' hC v1 v2 v3 rfl rfl rfl
            intro K hK
            try unfold cfV cfCells
            go_simp
            refine (K2.out w' hC).mono ?_
            rintro e w2 ⟨rfl, h1⟩
            exact hK _ _ rfl ⟨rfl, below_on hC h1, h1⟩
          case s12 =>
            refine stepOk1 8 134 rfl (by kernel_rfl) ?_
            rintro w' hC v1 rfl
            intro K hK
            obtain ⟨c0, c1, c2, c3, c4, c5, c6, c7, c8, c9, c10, c11⟩ := cfcells (blk_on hC NC.out)
            go_simp
            exact hK _ _ rfl ⟨rfl, hC, Below.refl _ _⟩
          case s13 =>
            refine stepOk1 8 134 rfl (by kernel_rfl) ?_
            rintro w' hC v1 rfl
            intro K hK
            obtain ⟨c0, c1, c2, c3, c4, c5, c6, c7, c8, c9, c10, c11⟩ := cfcells (blk_on hC ND.out)
            go_simp
            exact hK _ _ rfl ⟨rfl, hC, Below.refl _ _⟩
          case s14 =>
            refine stepOk3 8 134 12 138 13 139 rfl (by kernel_rfl) ?_
            rintro w' hC v1 v2 v3 rfl rfl rfl
            intro K hK
            try unfold cfV cfCells
            go_simp
            refine (K1.out w' hC).mono ?_
            rintro e w2 ⟨rfl, h1⟩
            exact hK _ _ rfl ⟨rfl, below_on hC h1, h1⟩
          case s15 =>
            refine stepOk3 8 134 11 137 14 140 rfl (by kernel_rfl) ?_
            rintro w' hC v1 v2 v3 rfl rfl rfl
            intro K hK
            go_simp
            exact hK _ _ rfl ⟨rfl, hC, Below.refl _ _⟩
          case s16 =>
            refine stepOk2 8 134 15 141 rfl (by kernel_rfl) ?_
            rintro w' hC v1 v2 rfl rfl
            intro K hK
            go_simp
            exact hK _ _ rfl ⟨rfl, hC, Below.refl _ _⟩
          case s17 =>
            refine stepOk1 16 142 rfl (by kernel_rfl) ?_
            rintro w' hC v1 rfl
            intro K hK
            go_simp
            exact hK _ _ rfl ⟨rfl, hC, Below.refl _ _⟩
        case hf =>
        intro w' hC t hx
        have h8 : t.getD 6 undef = .bool true := hx (17, 6) (by simp)
        have H8 := Lib.hid h8
        clear h8 hx
        go_wp2_with fail
        go_ret
        exact ⟨by rw [H8.out], below_on BX.out hC⟩

theorem walk {w : World} (cx : CfgV) (hw : SeenC w cx ∧ CfFits cx) (i : Int) (wi : (Lit.int IntKind.i64 i).wf = true) (k : Int) (wk : (Lit.int IntKind.i64 k).wf = true) (hL : IsL w) : Calls Tryd.prog 4 #[cfV cx, .int .i64 i, .int .i64 k] w fun r w' => r = .returned (.bool true) ∧ Below w.heap.size w w' :=
  walk_at cx i k _ (Lib.hid fun w' h => awake12_any w' h) (Lib.hid fun w' h => great_cf_any cx w' h) (Lib.hid fun h => small_of h) hw.1 hL

theorem own : ownKnob Tryd.prog.godebug = none := by kernel_rfl
theorem laidOut : laidOutB Tryd.prog = true := by kernel_rfl

set_option maxRecDepth 100000 in
theorem lifted (os : Os) (started : os.Started) (H : Type) (enc : TypeId × Value → H) :
    ReturnsInHanded {} Tryd.checked os 4 .any (fun w args => (Rows.confCopiesSpec.pre enc Tryd.prog Tryd.f4 Rows.confCopiesRow.domain false w args ∧ laidMetH Tryd.prog laidL w) ∧ sizedMet enc Tryd.prog Tryd.f4 (OpenSpec.ofChange Rows.confCopiesSpec) false w args) (Rows.confCopiesSpec.post enc Tryd.prog Tryd.f4 false true false false) := by
  refine returnsInHanded_of_row (s := OpenSpec.ofChange Rows.confCopiesSpec) (F := fun _ _ _ => 0) (laid := laidL) (C := Tryd.checked) own started (by kernel_rfl) Tryd.func4
    (ChangeSpec.witness_shaped (enc := enc) (C := Tryd.checked) (os := os) (s := Rows.confCopiesSpec) (X := fun w _ => laidMetH Tryd.prog laidL w) false (World.laidAll Tryd.prog os laidL) #[.agg #[.slice none 0 0, .slice none 0 0, .int .i64 0, .slice none 0 0, .slice none 0 0, .slice none 0 0, .int .i64 0, .int .u32 0, .int .u32 0, .int .i64 0, .int .u64 0, .int .u64 0], .int .i64 0, .int .i64 0] 8 (World.laidAll_os _ _ _)
      (World.shaped_of_ZipB (by kernel_rfl) (by kernel_rfl)) (by kernel_rfl) (by kernel_rfl) (by kernel_rfl)
      (by rw [MakeChecks.laidMetH_plain _ _ _ (by kernel_rfl)]; exact laidMet_laidAll _ (by kernel_rfl) (by kernel_rfl))) ?_
  intro W base args ds gs before hval0 hW hcnd _ hsz0 hL hsh _
  have hval : ∀ (j : Nat) t v, Tryd.f4.params[j]? = some t → args[j]? = some v → Value.okWide Tryd.prog W .any base t v := hval0
  have hW' := hW
  obtain ⟨p, q, hA0, hV, rfl, hfz, hnd⟩ := hW
  have hA : DataW.TrodAll enc Tryd.prog W 0 (fun _ => true) true Tryd.f4.params.toList args.toList ds p := hA0
  rw [Tryd.params4] at hA hval
  obtain ⟨v0, vs0, d0, ds0, p0, q0, hargs, rfl, rfl, h0, r0⟩ := trodAll_cons hA
  obtain ⟨v1, vs1, d1, ds1, p1, q1, rfl, rfl, rfl, h1, r1⟩ := trodAll_cons r0
  obtain ⟨v2, vs2, d2, ds2, p2, q2, rfl, rfl, rfl, h2, r2⟩ := trodAll_cons r1
  obtain ⟨rfl, rfl, rfl⟩ := trodAll_nil r2
  obtain rfl : args = #[v0, v1, v2] := by cases args; simp_all
  obtain ⟨rfl, rfl⟩ := trodVars_none hV
  have k0 := h0
  have lt0 : ∀ x ∈ p0, x.block < W.heap.size := by obtain ⟨m, hm⟩ := k0; exact DataW.trod_lt m _ _ _ hm
  have k1 := h1
  have lt1 : ∀ x ∈ p1, x.block < W.heap.size := by obtain ⟨m, hm⟩ := k1; exact DataW.trod_lt m _ _ _ hm
  have k2 := h2
  have lt2 : ∀ x ∈ p2, x.block < W.heap.size := by obtain ⟨m, hm⟩ := k2; exact DataW.trod_lt m _ _ _ hm
  obtain ⟨a0, rfl, w0⟩ := open_cfg (hval 0 28 v0 rfl rfl) h0
  obtain ⟨a1, rfl, rfl, rfl, w1⟩ := open_int Tryd.underlying3 (hval 1 3 v1 rfl rfl) h1
  obtain ⟨a2, rfl, rfl, rfl, w2⟩ := open_int Tryd.underlying3 (hval 2 3 v2 rfl rfl) h2
  clear hA0 hval0
  refine (walk a0 w0 a1 w1 a2 w2 (of_laid hL hsh)).mono fun e W' ⟨he, bel⟩ => ?_
  subst he
  exact ⟨_, rfl, _, _, _, [], _, [], hW', trodAll_mk1 (shut_bool Tryd.underlying4 _), (trodAll_cons_mk (Below.trod laidOut (by kernel_rfl) (of_decide_eq_true (by kernel_rfl)) k0 bel lt0) (trodAll_cons_mk (Below.trod laidOut (by kernel_rfl) (of_decide_eq_true (by kernel_rfl)) k1 bel lt1) (trodAll_cons_mk (Below.trod laidOut (by kernel_rfl) (of_decide_eq_true (by kernel_rfl)) k2 bel lt2) trodAll_mk0))), rfl, bel.frame _, fun h => by cases h⟩

theorem over : Rows.ConfCopiesSaid :=
  OpenClaim.holds_of_wide 4 Tryd.f4 rfl rfl rfl rfl rfl rfl rfl ⟨rfl, rfl, rfl, rfl, rfl⟩ rfl rfl rfl rfl rfl (by kernel_rfl) Tryd.func4 (by kernel_rfl)
    (of_decide_eq_true (by kernel_rfl)) (by unfold Func.isWrapper; first | (rw [if_pos (by decide +kernel)]; kernel_rfl) | (rw [if_neg (by decide +kernel)]; exact ⟨rfl, rfl⟩))
    (fun os started H enc _ => lifted os started H enc)

theorem proved : Rows.ConfCopiesCardSaid :=
  Claim7.holds_tied_plain_at .later [] _ true _ false over (fun _ h => by cases h) (by kernel_rfl) (fun _ h => by cases h) confCopies_row_tie rfl ⟨rfl, rfl⟩ (by kernel_rfl) rfl
    (fun f fn hf hfn => by
      obtain rfl : f = 4 := Option.some.inj ((show Tryd.prog.funcNamed "taffrail/taffraillaw12.ConfCopies" = some 4 by kernel_rfl).symm.trans hf) |>.symm
      obtain rfl : fn = Tryd.f4 := (Option.some.inj (Tryd.func4.symm.trans hfn)).symm
      refine ⟨by kernel_rfl, fun j t ht => ?_⟩
      rw [Tryd.params4] at ht
      have hm : t ∈ [28, 3, 3] := by simpa using Array.mem_of_getElem? ht
      have hall : ([28, 3, 3].all fun u => !Tryd.prog.wantsStandIn u) = true := by kernel_rfl
      exact (show Tryd.prog.wantsStandIn t = false by simpa using List.all_eq_true.1 hall t hm))
    (by kernel_rfl)
#print axioms proved

end Go.Proofs.YtbhnehacgkhpbaaDoor.ConfCopies
