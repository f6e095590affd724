/-
  The statements' own test of answers that the document fixes (awake), over this seat's translation: the walk. Conditions: the table's cells (IsL).
-/
import Derived.Test.YtbhnehacgkhpbaaDoorCfAv
namespace Go.Proofs.YtbhnehacgkhpbaaDoor
open Go Go.RowKit
set_option linter.unusedVariables false
set_option linter.unusedSimpArgs false

set_option maxRecDepth 100000 in
set_option maxHeartbeats 16000000 in
theorem awake12_any (w : World) (hL : IsL w) :
    Calls Tryd.prog 8 #[] w fun r w' => r = .returned (.bool true) ∧ Below w.heap.size w w' := by
  obtain ⟨A0, h0⟩ : ∃ A0, w.heap.size = A0 := ⟨_, rfl⟩
  obtain ⟨A1, h1⟩ : ∃ A1, A0 + 1 = A1 := ⟨_, rfl⟩
  obtain ⟨A2, h2⟩ : ∃ A2, A1 + 1 = A2 := ⟨_, rfl⟩
  obtain ⟨A3, h3⟩ : ∃ A3, A2 + 1 = A3 := ⟨_, rfl⟩
  obtain ⟨A4, h4⟩ : ∃ A4, A3 + 1 = A4 := ⟨_, rfl⟩
  obtain ⟨w0, e0⟩ : ∃ w5, w5 = ((((w.alloc (.cells #[.int .i64 17, .int .i64 0, .int .i64 0, .int .i64 0, .int .i64 0, .int .u32 0] 41)).alloc (.cells #[.int .i64 1, .int .i64 1, .int .i64 0, .int .i64 0, .int .i64 0, .slice (some ⟨A0, 0, none⟩) 1 1] 39)).alloc (.cells #[.int .i64 0] 3)).alloc (.cells #[.int .i64 0] 3)).alloc
      (.cells #[.slice (some ⟨A1, 0, none⟩) 1 1, .slice none 0 0, .int .i64 0, .slice (some ⟨A2, 0, none⟩) 1 1, .slice none 0 0, .slice (some ⟨A3, 0, none⟩) 1 1, .int .i64 0, .int .u32 0, .int .u32 0, .int .i64 0, .int .u64 0, .int .u64 0] 28) := ⟨_, rfl⟩
  obtain ⟨cx, hc, ho, hb, hbel, hsm, hk⟩ := aw_laid w A0 A1 A2 A3 A4 h0 h1 h2 h3 h4 w0 e0
  have Q0 := Lib.hid h0
  have Q1 := Lib.hid h1
  have Q2 := Lib.hid h2
  have Q3 := Lib.hid h3
  have Q4 := Lib.hid h4
  obtain ⟨D, hD⟩ : ∃ D, w0.heap.size = D := ⟨_, rfl⟩
  have HD0 := Lib.hid hD
  have B0 := Lib.hid hbel
  have L0 := Lib.hid (hL.below hbel)
  have N0 := Lib.hid hb
  have XS := Lib.hid ho.seen
  have XK := Lib.hid hk
  have XC := Lib.hid hc
  have HCP := Lib.hid (fun w' (h' : Below w0.heap.size w0 w') => copy_walk cx w' (ho.seen.below h') hsm)
  clear hc ho hb hbel hsm hk h0 h1 h2 h3 h4 hD hL
  go_enter Tryd.func8, Tryd.ntmps8
  go_upto_region 2 with fail
  rw [Q0.out, Q1.out, Q2.out, Q3.out, Q4.out, ← e0]
  clear e0 Q0 Q1 Q2 Q3 Q4
  unfold cfV cfCells at HCP
  refine wp_region_inv (twoR D cx)
    (fun u => Below w0.heap.size w0 u) (StB D) (fun _ _ _ => True) (fun l sv u => TwoJ D cx.c (fun j => l.getD j false) (sv 12) (sv 14) (sv 2) (sv 3) u) [(0, 11), (1, 12), (2, 13), (3, 14), (4, 2), (5, 3)] 8 (by kernel_rfl) (by kernel_rfl) (by kernel_rfl) (by kernel_rfl) ?hC ?hI ?hR ?hF ?hloc ?hs ?hf
  case hC => exact below_drew (Below.refl _ _)
  case hI => exact twoJ_start _ _ _ _ _ _ _
  case hR => exact fun j v u u' _ hg h => twoR_step j v u u' hg h
  case hF => exact fun _ _ _ _ _ _ _ => trivial
  case hloc => exact fun _ _ _ _ _ _ _ _ => trivial
  case hs =>
    refine stepsI_succ ?s7 (stepsI_succ ?s6 (stepsI_succ ?s5 (stepsI_succ ?s4 (stepsI_succ ?s3 (stepsI_succ ?s2 (stepsI_succ ?s1 (stepsI_succ ?s0 (stepsI_zero))))))))
    case s0 =>
      refine stepI0 rfl (by kernel_rfl) ?_
      rintro w' hC sv
      intro K hK
      obtain ⟨c0, c1, c2, c3, c4, c5, c6, c7, c8, c9, c10, c11⟩ := cfcells (blk_on hC N0.out)
      go_simp
      exact hK _ _ rfl ⟨rfl, hC, .inl (Below.refl _ _), trivial, fun l hl hn _ _ hi => hl.same (Below.refl _ _) ⟨by rw [set_at _ _ _ (by rw [hn]; decide), if_neg (by decide)], by rw [set_at _ _ _ (by rw [hn]; decide), if_neg (by decide)], by rw [set_at _ _ _ (by rw [hn]; decide), if_neg (by decide)], by rw [set_at _ _ _ (by rw [hn]; decide), if_neg (by decide)], by rw [set_at _ _ _ (by rw [hn]; decide), if_neg (by decide)], by rw [set_at _ _ _ (by rw [hn]; decide), if_neg (by decide)]⟩⟩
    case s2 =>
      refine stepI0 rfl (by kernel_rfl) ?_
      rintro w' hC sv
      intro K hK
      obtain ⟨c0, c1, c2, c3, c4, c5, c6, c7, c8, c9, c10, c11⟩ := cfcells (blk_on hC N0.out)
      go_simp
      exact hK _ _ rfl ⟨rfl, hC, .inl (Below.refl _ _), trivial, fun l hl hn _ _ hi => hl.same (Below.refl _ _) ⟨by rw [set_at _ _ _ (by rw [hn]; decide), if_neg (by decide)], by rw [set_at _ _ _ (by rw [hn]; decide), if_neg (by decide)], by rw [set_at _ _ _ (by rw [hn]; decide), if_neg (by decide)], by rw [set_at _ _ _ (by rw [hn]; decide), if_neg (by decide)], by rw [set_at _ _ _ (by rw [hn]; decide), if_neg (by decide)], by rw [set_at _ _ _ (by rw [hn]; decide), if_neg (by decide)]⟩⟩
    case s1 =>
      refine stepI1 0 11 rfl (by kernel_rfl) ?_
      rintro w' hC sv v1 - rfl
      intro K hK
      unfold cfV cfCells
      go_simp
      refine (HCP.out w' hC).mono ?_
      rintro e w2 ⟨y, rfl, hyc, hyo, hyb⟩
      exact hK _ _ rfl ⟨⟨y, rfl, hyc, hyo.mono (by rw [← HD0.out]; exact hC.size)⟩, below_on hC hyb, .inl hyb, trivial, fun l hl hn hdn _ hi => hl.call1 hyb ⟨by rw [set_at _ _ _ (by rw [hn]; decide), if_neg (by decide)], by rw [set_at _ _ _ (by rw [hn]; decide), if_neg (by decide)], by rw [set_at _ _ _ (by rw [hn]; decide), if_neg (by decide)], by rw [set_at _ _ _ (by rw [hn]; decide), if_neg (by decide)], by rw [set_at _ _ _ (by rw [hn]; decide), if_neg (by decide)]⟩ (by
        cases hq : l.getD 6 false with
        | false => rfl
        | true =>
          have := down_of hdn 6 1 (by kernel_rfl) (by rw [getD_bool l 6 (by rw [hn]; decide) true false]; exact hq)
          rw [getD_bool l 1 (by rw [hn]; decide) false true, hi] at this
          cases this) rfl hyc hyo (by rw [← HD0.out]; exact hC.size)⟩
    case s3 =>
      refine stepI1 2 13 rfl (by kernel_rfl) ?_
      rintro w' hC sv v1 - rfl
      intro K hK
      unfold cfV cfCells
      go_simp
      refine (HCP.out w' hC).mono ?_
      rintro e w2 ⟨y, rfl, hyc, hyo, hyb⟩
      exact hK _ _ rfl ⟨⟨y, rfl, hyc, hyo.mono (by rw [← HD0.out]; exact hC.size)⟩, below_on hC hyb, .inl hyb, trivial, fun l hl hn hdn _ hi => hl.call3 hyb ⟨by rw [set_at _ _ _ (by rw [hn]; decide), if_neg (by decide)], by rw [set_at _ _ _ (by rw [hn]; decide), if_neg (by decide)], by rw [set_at _ _ _ (by rw [hn]; decide), if_neg (by decide)], by rw [set_at _ _ _ (by rw [hn]; decide), if_neg (by decide)], by rw [set_at _ _ _ (by rw [hn]; decide), if_neg (by decide)]⟩ (by
        cases hq : l.getD 7 false with
        | false => rfl
        | true =>
          have := down_of hdn 7 3 (by kernel_rfl) (by rw [getD_bool l 7 (by rw [hn]; decide) true false]; exact hq)
          rw [getD_bool l 3 (by rw [hn]; decide) false true, hi] at this
          cases this) rfl hyc hyo (by rw [← HD0.out]; exact hC.size)⟩
    case s4 =>
      refine stepI0 rfl (by kernel_rfl) ?_
      rintro w' hC sv
      intro K hK
      go_simp
      obtain ⟨wn, en⟩ : ∃ wn, wn = w'.alloc (.cells zeroA 28) := ⟨_, rfl⟩
      obtain ⟨sn, nn, bn⟩ := new_size en
      unfold zeroA at en
      rw [← en]
      have hbx : BoxAt wn D w'.heap.size := boxAt_zero (by rw [← HD0.out]; exact hC.size) nn
      exact hK _ _ rfl ⟨⟨_, rfl, hbx⟩, below_on hC bn, .inl bn, trivial, fun l hl hn hdn _ hi => hl.new4 bn ⟨by rw [set_at _ _ _ (by rw [hn]; decide), if_neg (by decide)], by rw [set_at _ _ _ (by rw [hn]; decide), if_neg (by decide)], by rw [set_at _ _ _ (by rw [hn]; decide), if_neg (by decide)], by rw [set_at _ _ _ (by rw [hn]; decide), if_neg (by decide)], by rw [set_at _ _ _ (by rw [hn]; decide), if_neg (by decide)]⟩ (by
        cases hq : l.getD 6 false with
        | false => rfl
        | true =>
          have := down_of hdn 6 4 (by kernel_rfl) (by rw [getD_bool l 6 (by rw [hn]; decide) true false]; exact hq)
          rw [getD_bool l 4 (by rw [hn]; decide) false true, hi] at this
          cases this) hbx⟩
    case s5 =>
      refine stepI0 rfl (by kernel_rfl) ?_
      rintro w' hC sv
      intro K hK
      go_simp
      obtain ⟨wn, en⟩ : ∃ wn, wn = w'.alloc (.cells zeroA 28) := ⟨_, rfl⟩
      obtain ⟨sn, nn, bn⟩ := new_size en
      unfold zeroA at en
      rw [← en]
      have hbx : BoxAt wn D w'.heap.size := boxAt_zero (by rw [← HD0.out]; exact hC.size) nn
      exact hK _ _ rfl ⟨⟨_, rfl, hbx⟩, below_on hC bn, .inl bn, trivial, fun l hl hn hdn _ hi => hl.new5 bn ⟨by rw [set_at _ _ _ (by rw [hn]; decide), if_neg (by decide)], by rw [set_at _ _ _ (by rw [hn]; decide), if_neg (by decide)], by rw [set_at _ _ _ (by rw [hn]; decide), if_neg (by decide)], by rw [set_at _ _ _ (by rw [hn]; decide), if_neg (by decide)], by rw [set_at _ _ _ (by rw [hn]; decide), if_neg (by decide)]⟩ (by
        cases hq : l.getD 7 false with
        | false => rfl
        | true =>
          have := down_of hdn 7 5 (by kernel_rfl) (by rw [getD_bool l 7 (by rw [hn]; decide) true false]; exact hq)
          rw [getD_bool l 5 (by rw [hn]; decide) false true, hi] at this
          cases this) hbx⟩
    case s6 =>
      refine stepI2 1 12 4 2 rfl (by kernel_rfl) ?_
      rintro w' hC sv v1 v2 e1 e2 ⟨y, rfl, hyc, hyo⟩ ⟨g, rfl, hbx⟩
      intro K hK
      obtain ⟨u0, u1, u2, u3, u4, u5, u6, u7, u8, u9, u10, u11, hh, b0, b1, b2, b3, b4, b5, b6, b7, b8, b9, b10, b11⟩ := boxAt_cells hbx
      have fz := froz12 hh
      have f0 := fz 0; have f1 := fz 1; have f2 := fz 2; have f3 := fz 3; have f4 := fz 4; have f5 := fz 5; have f6 := fz 6; have f7 := fz 7; have f8 := fz 8; have f9 := fz 9; have f10 := fz 10; have f11 := fz 11
      obtain ⟨wn, en⟩ : ∃ wn, wn = cfSt w' g y := ⟨_, rfl⟩
      have hst : StB D w' wn := .inr ⟨g, y, hbx, en⟩
      have hbw : Below w0.heap.size w0 wn := by rw [en]; exact cfSt_below y hC (by rw [HD0.out]; exact hbx.1)
      have HJ : Hid (∀ (p q : Nat → Bool), TwoJ D cx.c p (sv 12) (sv 14) (sv 2) (sv 3) w' → q 1 = p 1 ∧ q 3 = p 3 ∧ q 4 = p 4 ∧ q 5 = p 5 ∧ q 7 = p 7 → p 1 = true → p 4 = true → TwoJ D cx.c q (sv 12) (sv 14) (sv 2) (sv 3) wn) :=
        Lib.hid (fun p q hj hq ha hb => by rw [en]; exact hj.store6 hq ha hb e1.symm e2.symm hbx)
      simp only [cfSt, stN] at en
      unfold cfV cfCells
      clear e1 e2
      go_simp
      rw [← en]
      exact hK _ _ rfl ⟨trivial, hbw, hst, trivial, fun l hl hn hdn hde hi => HJ.out _ _ hl ⟨by rw [set_at _ _ _ (by rw [hn]; decide), if_neg (by decide)], by rw [set_at _ _ _ (by rw [hn]; decide), if_neg (by decide)], by rw [set_at _ _ _ (by rw [hn]; decide), if_neg (by decide)], by rw [set_at _ _ _ (by rw [hn]; decide), if_neg (by decide)], by rw [set_at _ _ _ (by rw [hn]; decide), if_neg (by decide)]⟩ (deps_of hde 1 (by kernel_rfl)) (deps_of hde 4 (by kernel_rfl))⟩
    case s7 =>
      refine stepI2 3 14 5 3 rfl (by kernel_rfl) ?_
      rintro w' hC sv v1 v2 e1 e2 ⟨y, rfl, hyc, hyo⟩ ⟨g, rfl, hbx⟩
      intro K hK
      obtain ⟨u0, u1, u2, u3, u4, u5, u6, u7, u8, u9, u10, u11, hh, b0, b1, b2, b3, b4, b5, b6, b7, b8, b9, b10, b11⟩ := boxAt_cells hbx
      have fz := froz12 hh
      have f0 := fz 0; have f1 := fz 1; have f2 := fz 2; have f3 := fz 3; have f4 := fz 4; have f5 := fz 5; have f6 := fz 6; have f7 := fz 7; have f8 := fz 8; have f9 := fz 9; have f10 := fz 10; have f11 := fz 11
      obtain ⟨wn, en⟩ : ∃ wn, wn = cfSt w' g y := ⟨_, rfl⟩
      have hst : StB D w' wn := .inr ⟨g, y, hbx, en⟩
      have hbw : Below w0.heap.size w0 wn := by rw [en]; exact cfSt_below y hC (by rw [HD0.out]; exact hbx.1)
      have HJ : Hid (∀ (p q : Nat → Bool), TwoJ D cx.c p (sv 12) (sv 14) (sv 2) (sv 3) w' → q 1 = p 1 ∧ q 3 = p 3 ∧ q 4 = p 4 ∧ q 5 = p 5 ∧ q 6 = p 6 → p 3 = true → p 5 = true → TwoJ D cx.c q (sv 12) (sv 14) (sv 2) (sv 3) wn) :=
        Lib.hid (fun p q hj hq ha hb => by rw [en]; exact hj.store7 hq ha hb e1.symm e2.symm hbx)
      simp only [cfSt, stN] at en
      unfold cfV cfCells
      clear e1 e2
      go_simp
      rw [← en]
      exact hK _ _ rfl ⟨trivial, hbw, hst, trivial, fun l hl hn hdn hde hi => HJ.out _ _ hl ⟨by rw [set_at _ _ _ (by rw [hn]; decide), if_neg (by decide)], by rw [set_at _ _ _ (by rw [hn]; decide), if_neg (by decide)], by rw [set_at _ _ _ (by rw [hn]; decide), if_neg (by decide)], by rw [set_at _ _ _ (by rw [hn]; decide), if_neg (by decide)], by rw [set_at _ _ _ (by rw [hn]; decide), if_neg (by decide)]⟩ (deps_of hde 3 (by kernel_rfl)) (deps_of hde 5 (by kernel_rfl))⟩
  case hf =>
    intro w' hC sv hx _ hI
    obtain ⟨l, hl, hn, hj⟩ := hI
    obtain ⟨y1, y2, g, h, eg, eh, hc1, ho1, hc2, ho2, hap, hgD, hhD, hgh, hg1, hg2⟩ := hj.done hl hn
    simp only [putAll, List.foldl_cons, List.foldl_nil, eg, eh, Act.put, List.setIfInBounds_toArray, List.set_cons_succ, List.set_cons_zero]
    clear hx hl hn hj eg eh
    obtain ⟨tao, tcap, ao, cap, lao, lcap, sao, scap, qao, qcap, mao, mcap, rfl⟩ := awV_of (hc1.trans XC.out)
    obtain ⟨tao', tcap', ao', cap', lao', lcap', sao', scap', qao', qcap', mao', mcap', rfl⟩ := awV_of (hc2.trans XC.out)
    obtain ⟨gT, rfl⟩ : ∃ gT, tao = some ⟨gT, 0, none⟩ := own_some ho1.ts (by simp [awV])
    obtain ⟨gU, rfl⟩ : ∃ gU, tao' = some ⟨gU, 0, none⟩ := own_some ho2.ts (by simp [awV])
    obtain ⟨gC, rfl⟩ : ∃ gC, ao' = some ⟨gC, 0, none⟩ := own_some (ho2.tc ⟨⟨1, 1, 0, 0, 0, [⟨17, 0, 0, 0, 0, 0⟩]⟩, ao', cap'⟩ (by simp [awV])) (by simp)
    have hTa : HasAddr (awV 1 0 (some ⟨gT, 0, none⟩) tcap ao cap lao lcap sao scap qao qcap mao mcap) ⟨gT, 0, none⟩ := .inl rfl
    have hCa : HasAddr (awV 1 0 (some ⟨gU, 0, none⟩) tcap' (some ⟨gC, 0, none⟩) cap' lao' lcap' sao' scap' qao' qcap' mao' mcap') ⟨gC, 0, none⟩ := .inr (.inr (.inr (.inr (.inr (.inl ⟨_, List.mem_cons_self, rfl⟩)))))
    obtain ⟨t1, t5, tf, tk⟩ := aw_task ho1 (off := 0)
    obtain ⟨u1, u5, uf, uk⟩ := aw_task ho2 (off := 0)
    obtain ⟨i5, if5, ik⟩ := aw_ins ho2
    -- behind the first store
    obtain ⟨w7, e7⟩ : ∃ w7, w7 = w'.setCell ⟨gT, 1, none⟩ (.int .i64 0) := ⟨_, rfl⟩
    have on7 : Only w' w7 (fun k => k = gT) := by rw [e7]; exact Only.setCell w' gT 1 _ _ rfl
    have y1w : OwnC w7 D (awV 0 0 (some ⟨gT, 0, none⟩) tcap ao cap lao lcap sao scap qao qcap mao mcap) := by rw [e7]; exact aw_off ho1
    have y2w := ho2.onlyA on7 (fun a ha e => hap _ a hTa ha e.symm)
    have kg : g ≠ gT := fun e => by rw [e] at hg1; exact absurd (Kind.one tk (kind_of hg1)) (by decide)
    have kh : h ≠ gT := fun e => by rw [e] at hg2; exact absurd (Kind.one tk (kind_of hg2)) (by decide)
    have g7 := (on7.block g (blk_lt hg1) kg).trans hg1
    have h7 := (on7.block h (blk_lt hg2) kh).trans hg2
    have dT := (ho1.addr hTa).1
    have b7 : Below w0.heap.size w0 w7 := ⟨on7.os.trans hC.os, on7.tape.trans hC.tape, on7.output.trans hC.output, Nat.le_trans hC.size on7.size, fun k hk => (on7.block k (by have := hC.size; omega) (by have := HD0.out; simp only at dT; omega)).trans (hC.block k hk)⟩
    obtain ⟨v1, v5, vf, vk⟩ := aw_task y2w (off := 0)
    obtain ⟨j5, jf5, jk⟩ := aw_ins y2w
    -- behind the second one
    obtain ⟨w8, e8⟩ : ∃ w8, w8 = w7.setCell ⟨gC, 5, none⟩ (.int .u32 ((1 : Nat) : Int)) := ⟨_, rfl⟩
    have on8 : Only w7 w8 (fun k => k = gC) := by rw [e8]; exact Only.setCell w7 gC 5 _ _ rfl
    have y2x : OwnC w8 D (awV 1 1 (some ⟨gU, 0, none⟩) tcap' (some ⟨gC, 0, none⟩) cap' lao' lcap' sao' scap' qao' qcap' mao' mcap') := by rw [e8]; exact aw_k y2w
    have y1x := y1w.onlyA on8 (fun a ha e => hap a _ (by
      rcases ha with h | h | h | h | h | ⟨e, he, h⟩ | ⟨e, he, h⟩
      · exact .inl h
      · exact .inr (.inl h)
      · exact .inr (.inr (.inl h))
      · exact .inr (.inr (.inr (.inl h)))
      · exact .inr (.inr (.inr (.inr (.inl h))))
      · simp only [awV, List.mem_cons, List.not_mem_nil, or_false] at he
        subst he
        exact .inr (.inr (.inr (.inr (.inr (.inl ⟨_, List.mem_cons_self, h⟩)))))
      · simp only [awV, List.not_mem_nil] at he) hCa e)
    have kg8 : g ≠ gC := fun e => by rw [e] at g7; exact absurd (Kind.one jk (kind_of g7)) (by decide)
    have kh8 : h ≠ gC := fun e => by rw [e] at h7; exact absurd (Kind.one jk (kind_of h7)) (by decide)
    have g8 := (on8.block g (blk_lt g7) kg8).trans g7
    have h8 := (on8.block h (blk_lt h7) kh8).trans h7
    have dC := (ho2.addr hCa).1
    have b8 : Below w0.heap.size w0 w8 := ⟨on8.os.trans b7.os, on8.tape.trans b7.tape, on8.output.trans b7.output, Nat.le_trans b7.size on8.size, fun k hk => (on8.block k (by have := b7.size; omega) (by have := HD0.out; simp only at dC; omega)).trans (b7.block k hk)⟩
    have B8 := Lib.hid (below_on B0.out b8)
    have G8 := Lib.hid g8
    have H8 := Lib.hid h8
    have N8 := Lib.hid (blk_on b8 N0.out)
    have l8 := L0.out.below b8
    have x8 := XS.out.below b8
    -- the calls
    have K0 : Hid (∀ wr, Below w8.heap.size w8 wr → Calls Tryd.prog 10 #[.agg #[.slice none 0 0, .slice none 0 0, .int .i64 0, .slice none 0 0, .slice none 0 0, .slice none 0 0, .int .i64 0, .int .u32 0, .int .u32 0, .int .i64 0, .int .u64 0, .int .u64 0]] wr fun r w'' => r = .returned (.agg #[.int .i64 0, .int .i64 0, .int .i64 0, .int .i64 0]) ∧ Below wr.heap.size wr w'') :=
      Lib.hid (fun wr hb => by have := ccheck_any zeroV wr (zero_seen wr) (l8.below hb) zero_k; rw [show zeroV.c = ⟨[], [], 0, [], [], [], 0, 0, 0, 0, 0, 0⟩ from rfl, awC_none] at this; exact this)
    have K1 : Hid (∀ wr, Below w8.heap.size w8 wr → Calls Tryd.prog 10 #[cfV cx] wr fun r w'' => r = .returned (.agg #[.int .i64 0, .int .i64 0, .int .i64 0, .int .i64 0]) ∧ Below wr.heap.size wr w'') :=
      Lib.hid (fun wr hb => by have := ccheck_any cx wr (x8.below hb) (l8.below hb) XK.out; rw [XC.out, awC_one] at this; exact this)
    have K2 : Hid (∀ wr, Below w8.heap.size w8 wr → Calls Tryd.prog 10 #[.agg #[.slice (some ⟨gT, 0, none⟩) 1 tcap, .slice lao 0 lcap, .int .i64 0, .slice sao 1 scap, .slice qao 0 qcap, .slice mao 1 mcap, .int .i64 0, .int .u32 0, .int .u32 0, .int .i64 0, .int .u64 0, .int .u64 0]] wr fun r w'' => r = .returned (.agg #[.int .i64 5, .int .i64 1, .int .i64 0, .int .i64 2]) ∧ Below wr.heap.size wr w'') :=
      Lib.hid (fun wr hb => by have := ccheck_any _ wr (y1x.seen.below hb) (l8.below hb) (awV_k (by decide)); rw [awV_c, awC_off] at this; exact this)
    have K3 : Hid (∀ wr, Below w8.heap.size w8 wr → Calls Tryd.prog 10 #[.agg #[.slice (some ⟨gU, 0, none⟩) 1 tcap', .slice lao' 0 lcap', .int .i64 0, .slice sao' 1 scap', .slice qao' 0 qcap', .slice mao' 1 mcap', .int .i64 0, .int .u32 0, .int .u32 0, .int .i64 0, .int .u64 0, .int .u64 0]] wr fun r w'' => r = .returned (.agg #[.int .i64 5, .int .i64 1, .int .i64 0, .int .i64 7]) ∧ Below wr.heap.size wr w'') :=
      Lib.hid (fun wr hb => by have := ccheck_any _ wr (y2x.seen.below hb) (l8.below hb) (awV_k (by decide)); rw [awV_c, awC_k] at this; exact this)
    have K4 : Hid (∀ wr, Below w8.heap.size w8 wr → Calls Tryd.prog 14 #[cfV cx, .agg #[.slice (some ⟨gT, 0, none⟩) 1 tcap, .slice lao 0 lcap, .int .i64 0, .slice sao 1 scap, .slice qao 0 qcap, .slice mao 1 mcap, .int .i64 0, .int .u32 0, .int .u32 0, .int .i64 0, .int .u64 0, .int .u64 0]] wr fun r w'' => r = .returned (.bool false) ∧ Below wr.heap.size wr w'') :=
      Lib.hid (fun wr hb => by have := csame_any cx _ wr (x8.below hb) (y1x.seen.below hb); rw [XC.out, awV_c, awC_ne1] at this; exact this)
    have K5 : Hid (∀ wr, Below w8.heap.size w8 wr → Calls Tryd.prog 14 #[cfV cx, .agg #[.slice (some ⟨gU, 0, none⟩) 1 tcap', .slice lao' 0 lcap', .int .i64 0, .slice sao' 1 scap', .slice qao' 0 qcap', .slice mao' 1 mcap', .int .i64 0, .int .u32 0, .int .u32 0, .int .i64 0, .int .u64 0, .int .u64 0]] wr fun r w'' => r = .returned (.bool false) ∧ Below wr.heap.size wr w'') :=
      Lib.hid (fun wr hb => by have := csame_any cx _ wr (x8.below hb) (y2x.seen.below hb); rw [XC.out, awV_c, awC_ne2] at this; exact this)
    have G0 := Lib.hid hg1
    have H0 := Lib.hid hg2
    have G7 := Lib.hid g7
    have H7 := Lib.hid h7
    clear hc1 hc2 ho1 ho2 hap hgD hhD hgh hg1 hg2 hTa hCa on7 on8 y1w y2w y1x y2x kg kh g7 h7 dT b7 kg8 kh8 g8 h8 dC b8 l8 x8 tk uk ik vk jk hC L0 HCP XS XK XC
    unfold cfV cfCells at K1 K4 K5
    obtain ⟨c0, c1, c2, c3, c4, c5, c6, c7, c8, c9, c10, c11⟩ := aw_cells G0.out
    obtain ⟨d0, d1, d2, d3, d4, d5, d6, d7, d8, d9, d10, d11⟩ := aw_cells H0.out
    go_upto_region 6 with fail
    rw [← e7]
    clear e7 c0 c1 c2 c3 c4 c5 c6 c7 c8 c9 c10 c11 d0 d1 d2 d3 d4 d5 d6 d7 d8 d9 d10 d11 t1 t5 tf u1 u5 uf i5 if5
    obtain ⟨c0, c1, c2, c3, c4, c5, c6, c7, c8, c9, c10, c11⟩ := aw_cells G7.out
    obtain ⟨d0, d1, d2, d3, d4, d5, d6, d7, d8, d9, d10, d11⟩ := aw_cells H7.out
    rw [show ((1 : Nat) : Int) = 1 from rfl] at e8
    go_upto_region 7 with fail
    rw [← e8]
    clear e8 c0 c1 c2 c3 c4 c5 c6 c7 c8 c9 c10 c11 d0 d1 d2 d3 d4 d5 d6 d7 d8 d9 d10 d11 v1 v5 vf j5 jf5 G0 H0 G7 H7
    have BR : Hid (Below w8.heap.size w8 w8) := Lib.hid (Below.refl _ _)
    go_wp2_with fail
    refine (K0.out w8 BR.out).mono ?_
    rintro r p0 ⟨rfl, hp⟩
    have P0 := Lib.hid (below_on BR.out hp)
    clear hp K0  
    obtain ⟨c0, c1, c2, c3, c4, c5, c6, c7, c8, c9, c10, c11⟩ := cfcells (blk_on P0.out N8.out)
    go_wp2_with fail
    refine (K1.out p0 P0.out).mono ?_
    rintro r p1 ⟨rfl, hp⟩
    have P1 := Lib.hid (below_on P0.out hp)
    clear hp K1 c0 c1 c2 c3 c4 c5 c6 c7 c8 c9 c10 c11 
    obtain ⟨d0, d1, d2, d3, d4, d5, d6, d7, d8, d9, d10, d11⟩ := aw_cells (blk_on P1.out G8.out)
    go_wp2_with fail
    refine (K2.out p1 P1.out).mono ?_
    rintro r p2 ⟨rfl, hp⟩
    have P2 := Lib.hid (below_on P1.out hp)
    clear hp K2  d0 d1 d2 d3 d4 d5 d6 d7 d8 d9 d10 d11
    obtain ⟨d0, d1, d2, d3, d4, d5, d6, d7, d8, d9, d10, d11⟩ := aw_cells (blk_on P2.out H8.out)
    go_wp2_with fail
    refine (K3.out p2 P2.out).mono ?_
    rintro r p3 ⟨rfl, hp⟩
    have P3 := Lib.hid (below_on P2.out hp)
    clear hp K3  d0 d1 d2 d3 d4 d5 d6 d7 d8 d9 d10 d11
    obtain ⟨c0, c1, c2, c3, c4, c5, c6, c7, c8, c9, c10, c11⟩ := cfcells (blk_on P3.out N8.out)
    obtain ⟨d0, d1, d2, d3, d4, d5, d6, d7, d8, d9, d10, d11⟩ := aw_cells (blk_on P3.out G8.out)
    go_wp2_with fail
    refine (K4.out p3 P3.out).mono ?_
    rintro r p4 ⟨rfl, hp⟩
    have P4 := Lib.hid (below_on P3.out hp)
    clear hp K4 c0 c1 c2 c3 c4 c5 c6 c7 c8 c9 c10 c11 d0 d1 d2 d3 d4 d5 d6 d7 d8 d9 d10 d11
    obtain ⟨c0, c1, c2, c3, c4, c5, c6, c7, c8, c9, c10, c11⟩ := cfcells (blk_on P4.out N8.out)
    obtain ⟨d0, d1, d2, d3, d4, d5, d6, d7, d8, d9, d10, d11⟩ := aw_cells (blk_on P4.out H8.out)
    go_wp2_with fail
    refine (K5.out p4 P4.out).mono ?_
    rintro r p5 ⟨rfl, hp⟩
    have P5 := Lib.hid (below_on P4.out hp)
    clear hp K5 c0 c1 c2 c3 c4 c5 c6 c7 c8 c9 c10 c11 d0 d1 d2 d3 d4 d5 d6 d7 d8 d9 d10 d11
    go_wp2_with fail
    go_ret
    exact ⟨rfl, below_on B8.out P5.out⟩

end Go.Proofs.YtbhnehacgkhpbaaDoor
