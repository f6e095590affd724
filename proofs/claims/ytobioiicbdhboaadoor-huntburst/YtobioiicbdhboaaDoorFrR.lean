/-
  The document's frames (Fr5 to Fr7 in one text).
-/
import Derived.Test.YtobioiicbdhboaaDoorFrA
import Derived.Test.YtobioiicbdhboaaDoorSeptRef
import Derived.Test.YtobioiicbdhboaaDoorCrcRef
import Derived.Test.YtobioiicbdhboaaDoorCoil9
import Derived.Test.YtobioiicbdhboaaDoorRel
import Derived.Test.YtobioiicbdhboaaDoorCoil11
import Derived.BigRegion
namespace Go.Proofs.YtobioiicbdhboaaDoor
open Go.RowKit
set_option linter.unusedVariables false
set_option linter.unusedSimpArgs false

theorem mk_app (a b : List UInt8) : (⟨a.toArray⟩ : ByteArray) ++ (⟨b.toArray⟩ : ByteArray) = ⟨(a ++ b).toArray⟩ := by
  apply ByteArray.ext
  simp [ByteArray.data_append]

theorem frame_cat (q cyc cnt : Nat) (P : List UInt8) :
    ((((onesB ++ (⟨(headL q cyc cnt P.length).toArray⟩ : ByteArray)) ++ (⟨(septL (sumL (headL q cyc cnt P.length)) 5).toArray⟩ : ByteArray)) ++ (⟨P.toArray⟩ : ByteArray)) ++ (⟨(septL (sumL P) 5).toArray⟩ : ByteArray)) = ⟨(frameB q cyc cnt P).toArray⟩ := by
  rw [show onesB = ⟨onesL.toArray⟩ from rfl, mk_app, mk_app, mk_app, mk_app]
  simp only [frameB, sumd, List.append_assoc]

def preB : Nat → ByteArray
  | 0 => ⟨#[]⟩
  | n + 1 => preB n ++ ⟨#[255]⟩
theorem preB_size : ∀ n, (preB n).size = n
  | 0 => rfl
  | n + 1 => by show (preB n ++ ⟨#[255]⟩).size = n + 1; rw [ByteArray.size_append, preB_size n]; rfl
theorem preB_end : preB 16 ++ tafB = markB := by decide +kernel

set_option maxRecDepth 100000 in
theorem rmarker_any (w : World) :
    Calls Tryd.prog 33 #[] w fun e w' => e = .returned (.string markB) ∧ w = w' := by
  go_enter Tryd.func33, Tryd.ntmps33
  go_wp2_with fail
  go_loop [1, 2] (fun v x => ∃ i : Nat, x = .int .i64 i ∧ i ≤ 16 ∧ v = .string (preB i)) (fun _ x => 16 - (intOf x).toNat)
  case atStart => exact ⟨0, rfl, by omega, rfl⟩
  case round =>
    obtain ⟨i, rfl, hi, rfl⟩ := hrel
    have hz := preB_size i
    by_cases h : i < 16
    · have HN := Lib.hid (show preB i ++ ⟨#[255]⟩ = preB (i + 1) from rfl)
      generalize preB i = s at *
      have hz1 : ¬ 9223372036854775807 < s.size + (⟨#[255]⟩ : ByteArray).size := by rw [hz, show (⟨#[255]⟩ : ByteArray).size = 1 from rfl]; omega
      go_wp2_with fail
      go_round
      case rel => exact ⟨i + 1, by go_num, by omega, congrArg Value.string HN.out⟩
      case measure => simp [intOf]; omega
    · obtain rfl : i = 16 := by omega
      have HN := Lib.hid preB_end
      generalize preB 16 = s at *
      have hz1 : ¬ 9223372036854775807 < s.size + tafB.size := by rw [hz]; decide
      have hz2 : ¬ 9223372036854775807 < s.size + (⟨#[84, 65, 70, 82, 73, 76]⟩ : ByteArray).size := by rw [hz]; decide
      go_wp2_with fail
      go_ret
      exact ⟨congrArg (fun x => Ending.returned (Value.string x)) HN.out, rfl⟩

set_option maxRecDepth 100000 in
theorem rfive_any (n : Nat) (hn : n < 4294967296) (w : World) :
    Calls Tryd.prog 31 #[.int .u32 n] w fun e w' => e = .returned (.string ⟨(septL n 5).toArray⟩) ∧ Below w.heap.size w w' := by
  have H := Lib.hid (rsprint_any n 5 (by omega) (by omega) (by omega) w)
  go_enter Tryd.func31, Tryd.ntmps31
  go_wp2_with fail
  refine H.out.mono ?_
  rintro e w1 ⟨rfl, b1⟩
  go_wp2_with fail
  go_ret
  exact ⟨rfl, b1⟩
set_option maxRecDepth 100000 in
theorem rten_any (n : Nat) (hn : n < 18446744073709551616) (w : World) :
    Calls Tryd.prog 32 #[.int .u64 n] w fun e w' => e = .returned (.string ⟨(septL n 10).toArray⟩) ∧ Below w.heap.size w w' := by
  have H := Lib.hid (rsprint_any n 10 (by omega) (by omega) (by omega) w)
  go_enter Tryd.func32, Tryd.ntmps32
  go_wp2_with fail
  refine H.out.mono ?_
  rintro e w1 ⟨rfl, b1⟩
  go_wp2_with fail
  go_ret
  exact ⟨rfl, b1⟩

set_option maxRecDepth 100000 in
set_option maxHeartbeats 4000000 in
theorem rfprint_empty (q : Nat) (ao : Option Addr) (cap : Nat) (w : World) :
    Calls Tryd.prog 21 #[.agg #[.int .u32 (q : Int), .slice ao 0 cap]] w fun e w' => e = .returned (.tuple #[.string ⟨#[]⟩, .int .i64 8]) ∧ Below w.heap.size w w' := by
  go_enter Tryd.func21, Tryd.ntmps21
  go_wp2
  go_ret2
  exact ⟨rfl, (Below.refl _ w).alloc (Nat.le_refl _) _⟩

set_option maxRecDepth 100000 in
set_option maxHeartbeats 8000000 in
theorem rfprint_walk (q : Nat) (hq : q < 4294967296) (ao : Option Addr) (cap : Nat) (l : List Ev) (hp : 0 < l.length) (w : World) (hs : SeenE w ao cap l) (hf : ∀ e ∈ l, EvFits e) (hn : l.length ≤ 1000000) :
    Calls Tryd.prog 21 #[.agg #[.int .u32 (q : Int), .slice ao l.length cap]] w fun r w' => r = .returned (.tuple #[.string ⟨(frameP q l).1.toArray⟩, .int .i64 (frameP q l).2]) ∧ Below w.heap.size w w' := by
  obtain ⟨w1, x1⟩ : ∃ w1, w1 = w.alloc (frO q ao l.length cap) := ⟨_, rfl⟩
  obtain ⟨s1, n1, b1⟩ := new_size x1
  have HP := Lib.hid (rprint_all ao cap l w1 (hs.below b1) hf hn)
  obtain ⟨e, he⟩ : ∃ e, e = l[0] := ⟨_, rfl⟩
  have fe : EvFits e := by rw [he]; exact hf _ (List.getElem_mem hp)
  have hge : l.getD 0 ev0 = e := by rw [he]; simp [List.getD, List.getElem?_eq_getElem hp]
  have HF : Hid (frameP q l = if (coilL l).2 = 0 then (if (coilL l).1.length ≤ 120 then (frameB q e.cyc e.cnt (coilL l).1, 0) else ([], 4)) else ([], (coilL l).2)) :=
    Lib.hid (by unfold frameP; rw [if_neg (by omega), hge])
  obtain ⟨b, off, hao, hb, a6⟩ := hs.at 0 hp
  rw [← he] at a6
  simp only [Nat.zero_mul, Nat.add_zero] at a6
  have A0 := Lib.hid a6
  have B1 := Lib.hid b1
  have hlz : ((l.length : Int) == 0) = false := by rw [beq_eq_false_iff_ne]; omega
  have hlI : (0 : Int) < (l.length : Int) := by omega
  generalize coilL l = R at *
  obtain ⟨P, c⟩ := R
  simp only at HP HF
  obtain ⟨c0, c1, -, -⟩ := frcells n1
  have N1 := Lib.hid n1
  obtain ⟨D, hD⟩ : ∃ D, w.heap.size = D := ⟨_, rfl⟩
  rw [hD] at c0 c1 N1 B1 hb ⊢
  have HD := Lib.hid hD
  subst hao
  unfold frO at x1
  clear hs hf hn he hge a6 b1 n1 s1 hD
  go_enter Tryd.func21, Tryd.ntmps21
  go_wp2_with fail
  rw [← x1, HD.out]
  clear x1
  refine HP.out.mono ?_
  rintro r w2 ⟨rfl, b2⟩
  have N2 := Lib.hid ((b2.block _ (blk_lt N1.out)).trans N1.out)
  have hD2 : D < w2.heap.size := blk_lt N2.out
  have B2 := Lib.hid (B1.out.trans (b2.mono (Nat.le_of_lt (blk_lt N1.out))))
  clear c0 c1 N1 B1 b2 HP
  by_cases hc : c = 0
  · have hcb : (c != 0) = false := by rw [hc]; rfl
    have HF' := Lib.hid (HF.out.trans (if_pos hc))
    clear hc HF
    obtain ⟨S, hS⟩ : ∃ S : ByteArray, S = ⟨P.toArray⟩ := ⟨_, rfl⟩
    have hz : P.length = S.size := by rw [hS]; simp [ByteArray.size]
    have hSP : S.data.toList = P := by rw [hS]
    rw [← hS]
    rw [hz] at HF'
    by_cases hl : S.size ≤ 120
    · have hd : decide ((120 : Int) < (S.size : Int)) = false := by rw [decide_eq_false_iff_not]; omega
      have HF2 := Lib.hid (HF'.out.trans (if_pos hl))
      have HZ := Lib.hid (rsprint_any S.size 2 (by omega) (by omega) (by omega))
      obtain ⟨Zs, hZs⟩ : ∃ x : ByteArray, x = ⟨(septL S.size 2).toArray⟩ := ⟨_, rfl⟩
      obtain ⟨F5, hF5⟩ : ∃ x : ByteArray, x = ⟨(septL q 5).toArray⟩ := ⟨_, rfl⟩
      obtain ⟨C10, hC10⟩ : ∃ x : ByteArray, x = ⟨(septL e.cyc 10).toArray⟩ := ⟨_, rfl⟩
      obtain ⟨N10, hN10⟩ : ∃ x : ByteArray, x = ⟨(septL e.cnt 10).toArray⟩ := ⟨_, rfl⟩
      obtain ⟨S1, hS1⟩ : ∃ x : ByteArray, x = (⟨#[84, 65, 70, 82, 73, 76]⟩ : ByteArray) ++ F5 := ⟨_, rfl⟩
      obtain ⟨S2, hS2⟩ : ∃ x : ByteArray, x = S1 ++ C10 := ⟨_, rfl⟩
      obtain ⟨S3, hS3⟩ : ∃ x : ByteArray, x = S2 ++ N10 := ⟨_, rfl⟩
      obtain ⟨S4, hS4⟩ : ∃ x : ByteArray, x = S3 ++ Zs := ⟨_, rfl⟩
      have g1 : S1 = ⟨(tafL ++ septL q 5).toArray⟩ := by rw [hS1, hF5]; exact mk_app tafL _
      have g2 : S2 = ⟨((tafL ++ septL q 5) ++ septL e.cyc 10).toArray⟩ := by rw [hS2, g1, hC10, mk_app]
      have g3 : S3 = ⟨(((tafL ++ septL q 5) ++ septL e.cyc 10) ++ septL e.cnt 10).toArray⟩ := by rw [hS3, g2, hN10, mk_app]
      have g4 : S4 = ⟨(headL q e.cyc e.cnt S.size).toArray⟩ := by rw [hS4, g3, hZs, mk_app]; simp only [headL, List.append_assoc]
      have y0 : F5.size = 5 := by rw [hF5, mk_size, septL_len]
      have y1 : S1.size = 11 := by rw [g1, mk_size, List.length_append, septL_len]; rfl
      have y2 : C10.size = 10 := by rw [hC10, mk_size, septL_len]
      have y3 : S2.size = 21 := by rw [hS2, ByteArray.size_append, y1, y2]
      have y4 : N10.size = 10 := by rw [hN10, mk_size, septL_len]
      have y5 : S3.size = 31 := by rw [hS3, ByteArray.size_append, y3, y4]
      have y6 : Zs.size = 2 := by rw [hZs, mk_size, septL_len]
      have y7 : S4.size = 33 := by rw [hS4, ByteArray.size_append, y5, y6]
      have H5 := Lib.hid (fun w' => rfive_any q hq w')
      have HC := Lib.hid (fun w' => rten_any e.cyc fe.cyc w')
      have HN := Lib.hid (fun w' => rten_any e.cnt fe.cnt w')
      have HM := Lib.hid (fun w' => rmarker_any w')
      have HU1 := Lib.hid (fun w' => rsum_any S4 (by rw [y7]; decide) w')
      have HU2 := Lib.hid (fun w' => rsum_any S (by unfold maxLen; omega) w')
      have hu1 := sumL_lt S4.data.toList
      have hu2 := sumL_lt S.data.toList
      obtain ⟨G1, hG1⟩ : ∃ x : ByteArray, x = ⟨(septL (sumL S4.data.toList) 5).toArray⟩ := ⟨_, rfl⟩
      obtain ⟨G2, hG2⟩ : ∃ x : ByteArray, x = ⟨(septL (sumL S.data.toList) 5).toArray⟩ := ⟨_, rfl⟩
      have HV1 := Lib.hid (fun w' => rfive_any (sumL S4.data.toList) hu1 w')
      have HV2 := Lib.hid (fun w' => rfive_any (sumL S.data.toList) hu2 w')
      have HO : Hid (markB.extract 0 16 = onesB) := Lib.hid (by decide +kernel)
      have hms : markB.size = 22 := rfl
      have hos : onesB.size = 16 := rfl
      obtain ⟨U1, hU1⟩ : ∃ x : ByteArray, x = onesB ++ S4 := ⟨_, rfl⟩
      obtain ⟨U2, hU2⟩ : ∃ x : ByteArray, x = U1 ++ G1 := ⟨_, rfl⟩
      obtain ⟨U3, hU3⟩ : ∃ x : ByteArray, x = U2 ++ S := ⟨_, rfl⟩
      obtain ⟨U4, hU4⟩ : ∃ x : ByteArray, x = U3 ++ G2 := ⟨_, rfl⟩
      have v1 : G1.size = 5 := by rw [hG1, mk_size, septL_len]
      have v2 : G2.size = 5 := by rw [hG2, mk_size, septL_len]
      have v3 : U1.size = 49 := by rw [hU1, ByteArray.size_append, y7]; rfl
      have v4 : U2.size = 54 := by rw [hU2, ByteArray.size_append, v3, v1]
      have v5 : U3.size = 54 + S.size := by rw [hU3, ByteArray.size_append, v4]
      have HEND : Hid (U4 = ⟨(frameB q e.cyc e.cnt P).toArray⟩) := Lib.hid (by
        have hd4 : S4.data.toList = headL q e.cyc e.cnt P.length := by rw [g4, hz]
        have g4' : S4 = ⟨(headL q e.cyc e.cnt P.length).toArray⟩ := by rw [g4, hz]
        rw [hU4, hU3, hU2, hU1, hG1, hG2, hd4, hSP, g4', hS]
        exact frame_cat q e.cyc e.cnt P)
      rw [← hF5] at H5
      rw [← hC10] at HC
      rw [← hN10] at HN
      rw [← hZs] at HZ
      rw [← hG1] at HV1
      rw [← hG2] at HV2
      have E1 := Lib.hid hS1.symm
      have E2 := Lib.hid hS2.symm
      have E3 := Lib.hid hS3.symm
      have E4 := Lib.hid hS4.symm
      have D1 := Lib.hid hU1.symm
      have D2 := Lib.hid hU2.symm
      have D3 := Lib.hid hU3.symm
      have D4 := Lib.hid hU4.symm
      have Z1 := Lib.hid (show ¬ 9223372036854775807 < 6 + F5.size by omega)
      have Z2 := Lib.hid (show ¬ 9223372036854775807 < S1.size + C10.size by omega)
      have Z3 := Lib.hid (show ¬ 9223372036854775807 < S2.size + N10.size by omega)
      have Z4 := Lib.hid (show ¬ 9223372036854775807 < S3.size + Zs.size by omega)
      have V1 := Lib.hid (show ¬ 9223372036854775807 < onesB.size + S4.size by omega)
      have V2 := Lib.hid (show ¬ 9223372036854775807 < U1.size + G1.size by omega)
      have V3 := Lib.hid (show ¬ 9223372036854775807 < U2.size + S.size by omega)
      have V4 := Lib.hid (show ¬ 9223372036854775807 < U3.size + G2.size by omega)
      have Hms := Lib.hid hms
      generalize sumL S4.data.toList = k1 at *
      generalize sumL S.data.toList = k2 at *
      generalize markB = mB at *
      generalize onesB = oB at *
      generalize decide (S.size < 128 ^ 2) = d2 at *
      clear hS1 hS2 hS3 hS4 hU1 hU2 hU3 hU4 hF5 hC10 hN10 hZs hG1 hG2 g1 g2 g3 g4 y0 y1 y2 y3 y4 y5 y6 y7 v1 v2 v3 v4 v5 hms hos hu1 hu2 hS hSP HF' fe hq
      go_wp2_with fail
      refine (HZ.out w2).mono ?_
      rintro r w3 ⟨rfl, b3⟩
      have N3 := Lib.hid ((b3.block _ (blk_lt N2.out)).trans N2.out)
      have hD3 : D < w3.heap.size := blk_lt N3.out
      have B3 := Lib.hid (B2.out.trans (b3.mono (Nat.le_of_lt hD2)))
      have A3 := Lib.hid (A0.out.same (B3.out.block _ hb))
      have hb3 : b < w3.heap.size := by omega
      clear b3 N2 B2 HZ A0 hD2
      go_wp2_with fail
      refine wp_region_rel [.is (.pointer (some ⟨D, 0, none⟩)), .is (.int .u32 (q : Int)), .is (.string F5), .is (.string S1), .is (.pointer (some ⟨D, 1, none⟩)), .is (.slice (some ⟨b, off, none⟩) l.length cap), .is (.pointer (some ⟨b, off, none⟩)), .is (.pointer (some ⟨b, off + 1, none⟩)), .is (.int .u64 (e.cyc : Int)), .is (.string C10), .is (.string S2), .is (.pointer (some ⟨D, 1, none⟩)), .is (.slice (some ⟨b, off, none⟩) l.length cap), .is (.pointer (some ⟨b, off, none⟩)), .is (.pointer (some ⟨b, off + 2, none⟩)), .is (.int .u64 (e.cnt : Int)), .is (.string N10), .is (.string S3), .is (.string Zs), .is (.string S4), .is (.string S4)]
        (fun w' => Below w3.heap.size w3 w') [(0, 32), (1, 33), (2, 34), (3, 35), (4, 36), (5, 37), (6, 38), (7, 39), (8, 40), (9, 41), (10, 42), (11, 43), (12, 44), (13, 45), (14, 46), (15, 47), (16, 48), (17, 49), (18, 50), (19, 51), (20, 8)] 21 (by kernel_rfl) (by kernel_rfl) (by kernel_rfl) (by kernel_rfl) ?hC ?hs ?hf
      case hC => exact below_drew (Below.refl _ _)
      case hs =>
        refine stepsOk_succ ?s20 (stepsOk_succ ?s19 (stepsOk_succ ?s18 (stepsOk_succ ?s17 (stepsOk_succ ?s16 (stepsOk_succ ?s15 (stepsOk_succ ?s14 (stepsOk_succ ?s13 (stepsOk_succ ?s12 (stepsOk_succ ?s11 (stepsOk_succ ?s10 (stepsOk_succ ?s9 (stepsOk_succ ?s8 (stepsOk_succ ?s7 (stepsOk_succ ?s6 (stepsOk_succ ?s5 (stepsOk_succ ?s4 (stepsOk_succ ?s3 (stepsOk_succ ?s2 (stepsOk_succ ?s1 (stepsOk_succ ?s0 (stepsOk_zero)))))))))))))))))))))
        case s0 =>
          refine stepOk0 rfl (by kernel_rfl) ?_
          rintro w' hC
          intro K hK
          go_simp
          exact hK _ _ rfl ⟨rfl, hC, Below.refl _ _⟩
        case s1 =>
          refine stepOk1 0 32 rfl (by kernel_rfl) ?_
          rintro w' hC v1 rfl
          intro K hK
          obtain ⟨c0, c1, -, -⟩ := frcells ((hC.block _ (blk_lt N3.out)).trans N3.out)
          go_simp
          exact hK _ _ rfl ⟨rfl, hC, Below.refl _ _⟩
        case s2 =>
          refine stepOk1 1 33 rfl (by kernel_rfl) ?_
          rintro w' hC v1 rfl
          intro K hK
          go_simp
          refine (H5.out w').mono ?_
          rintro e w2 ⟨rfl, h1⟩
          exact hK _ _ rfl ⟨rfl, hC.trans (h1.mono hC.size), h1⟩
        case s3 =>
          refine stepOk1 2 34 rfl (by kernel_rfl) ?_
          rintro w' hC v1 rfl
          intro K hK
          have z := Z1.out
          go_simp
          exact hK _ _ rfl ⟨congrArg Value.string E1.out, hC, Below.refl _ _⟩
        case s4 =>
          refine stepOk0 rfl (by kernel_rfl) ?_
          rintro w' hC
          intro K hK
          go_simp
          exact hK _ _ rfl ⟨rfl, hC, Below.refl _ _⟩
        case s5 =>
          refine stepOk1 4 36 rfl (by kernel_rfl) ?_
          rintro w' hC v1 rfl
          intro K hK
          obtain ⟨c0, c1, -, -⟩ := frcells ((hC.block _ (blk_lt N3.out)).trans N3.out)
          go_simp
          exact hK _ _ rfl ⟨rfl, hC, Below.refl _ _⟩
        case s6 =>
          refine stepOk1 5 37 rfl (by kernel_rfl) ?_
          rintro w' hC v1 rfl
          intro K hK
          go_simp
          exact hK _ _ rfl ⟨rfl, hC, Below.refl _ _⟩
        case s7 =>
          refine stepOk1 6 38 rfl (by kernel_rfl) ?_
          rintro w' hC v1 rfl
          intro K hK
          go_simp
          exact hK _ _ rfl ⟨rfl, hC, Below.refl _ _⟩
        case s8 =>
          refine stepOk1 7 39 rfl (by kernel_rfl) ?_
          rintro w' hC v1 rfl
          intro K hK
          obtain ⟨c0, c1, c2, c3, c4, c5⟩ := A3.out.same (hC.block _ hb3)
          go_simp
          exact hK _ _ rfl ⟨rfl, hC, Below.refl _ _⟩
        case s9 =>
          refine stepOk1 8 40 rfl (by kernel_rfl) ?_
          rintro w' hC v1 rfl
          intro K hK
          go_simp
          refine (HC.out w').mono ?_
          rintro e w2 ⟨rfl, h1⟩
          exact hK _ _ rfl ⟨rfl, hC.trans (h1.mono hC.size), h1⟩
        case s10 =>
          refine stepOk2 3 35 9 41 rfl (by kernel_rfl) ?_
          rintro w' hC v1 v2 rfl rfl
          intro K hK
          have z := Z2.out
          go_simp
          exact hK _ _ rfl ⟨congrArg Value.string E2.out, hC, Below.refl _ _⟩
        case s11 =>
          refine stepOk0 rfl (by kernel_rfl) ?_
          rintro w' hC
          intro K hK
          go_simp
          exact hK _ _ rfl ⟨rfl, hC, Below.refl _ _⟩
        case s12 =>
          refine stepOk1 11 43 rfl (by kernel_rfl) ?_
          rintro w' hC v1 rfl
          intro K hK
          obtain ⟨c0, c1, -, -⟩ := frcells ((hC.block _ (blk_lt N3.out)).trans N3.out)
          go_simp
          exact hK _ _ rfl ⟨rfl, hC, Below.refl _ _⟩
        case s13 =>
          refine stepOk1 12 44 rfl (by kernel_rfl) ?_
          rintro w' hC v1 rfl
          intro K hK
          go_simp
          exact hK _ _ rfl ⟨rfl, hC, Below.refl _ _⟩
        case s14 =>
          refine stepOk1 13 45 rfl (by kernel_rfl) ?_
          rintro w' hC v1 rfl
          intro K hK
          go_simp
          exact hK _ _ rfl ⟨rfl, hC, Below.refl _ _⟩
        case s15 =>
          refine stepOk1 14 46 rfl (by kernel_rfl) ?_
          rintro w' hC v1 rfl
          intro K hK
          obtain ⟨c0, c1, c2, c3, c4, c5⟩ := A3.out.same (hC.block _ hb3)
          go_simp
          exact hK _ _ rfl ⟨rfl, hC, Below.refl _ _⟩
        case s16 =>
          refine stepOk1 15 47 rfl (by kernel_rfl) ?_
          rintro w' hC v1 rfl
          intro K hK
          go_simp
          refine (HN.out w').mono ?_
          rintro e w2 ⟨rfl, h1⟩
          exact hK _ _ rfl ⟨rfl, hC.trans (h1.mono hC.size), h1⟩
        case s17 =>
          refine stepOk2 10 42 16 48 rfl (by kernel_rfl) ?_
          rintro w' hC v1 v2 rfl rfl
          intro K hK
          have z := Z3.out
          go_simp
          exact hK _ _ rfl ⟨congrArg Value.string E3.out, hC, Below.refl _ _⟩
        case s18 =>
          refine stepOk0 rfl (by kernel_rfl) ?_
          rintro w' hC
          intro K hK
          go_simp
          exact hK _ _ rfl ⟨rfl, hC, Below.refl _ _⟩
        case s19 =>
          refine stepOk2 17 49 18 50 rfl (by kernel_rfl) ?_
          rintro w' hC v1 v2 rfl rfl
          intro K hK
          have z := Z4.out
          go_simp
          exact hK _ _ rfl ⟨congrArg Value.string E4.out, hC, Below.refl _ _⟩
        case s20 =>
          refine stepOk1 19 51 rfl (by kernel_rfl) ?_
          rintro w' hC v1 rfl
          intro K hK
          go_simp
          exact hK _ _ rfl ⟨rfl, hC, Below.refl _ _⟩
      case hf =>
        intro w' hC x hx
        have e0 : x 32 = (.pointer (some ⟨D, 0, none⟩)) := hx (0, 32) (by simp)
        have e1 : x 33 = (.int .u32 (q : Int)) := hx (1, 33) (by simp)
        have e2 : x 34 = (.string F5) := hx (2, 34) (by simp)
        have e3 : x 35 = (.string S1) := hx (3, 35) (by simp)
        have e4 : x 36 = (.pointer (some ⟨D, 1, none⟩)) := hx (4, 36) (by simp)
        have e5 : x 37 = (.slice (some ⟨b, off, none⟩) l.length cap) := hx (5, 37) (by simp)
        have e6 : x 38 = (.pointer (some ⟨b, off, none⟩)) := hx (6, 38) (by simp)
        have e7 : x 39 = (.pointer (some ⟨b, off + 1, none⟩)) := hx (7, 39) (by simp)
        have e8 : x 40 = (.int .u64 (e.cyc : Int)) := hx (8, 40) (by simp)
        have e9 : x 41 = (.string C10) := hx (9, 41) (by simp)
        have e10 : x 42 = (.string S2) := hx (10, 42) (by simp)
        have e11 : x 43 = (.pointer (some ⟨D, 1, none⟩)) := hx (11, 43) (by simp)
        have e12 : x 44 = (.slice (some ⟨b, off, none⟩) l.length cap) := hx (12, 44) (by simp)
        have e13 : x 45 = (.pointer (some ⟨b, off, none⟩)) := hx (13, 45) (by simp)
        have e14 : x 46 = (.pointer (some ⟨b, off + 2, none⟩)) := hx (14, 46) (by simp)
        have e15 : x 47 = (.int .u64 (e.cnt : Int)) := hx (15, 47) (by simp)
        have e16 : x 48 = (.string N10) := hx (16, 48) (by simp)
        have e17 : x 49 = (.string S3) := hx (17, 49) (by simp)
        have e18 : x 50 = (.string Zs) := hx (18, 50) (by simp)
        have e19 : x 51 = (.string S4) := hx (19, 51) (by simp)
        have e20 : x 8 = (.string S4) := hx (20, 8) (by simp)
        simp only [putAll, List.foldl_cons, List.foldl_nil, e0, e1, e2, e3, e4, e5, e6, e7, e8, e9, e10, e11, e12, e13, e14, e15, e16, e17, e18, e19, e20, Act.put, List.setIfInBounds_toArray, List.set_cons_succ, List.set_cons_zero]
        clear hx e0 e1 e2 e3 e4 e5 e6 e7 e8 e9 e10 e11 e12 e13 e14 e15 e16 e17 e18 e19 e20
        have B4 := Lib.hid (B3.out.trans (hC.mono (Nat.le_of_lt hD3)))
        have D4' := Lib.hid (show D ≤ w'.heap.size from Nat.le_trans (Nat.le_of_lt hD3) hC.size)
        clear hC N3 B3 A3 hD3 hb3 H5 HC HN E1 E2 E3 E4 Z1 Z2 Z3 Z4
        generalize w' = w4 at *
        go_wp2_with fail
        refine wp_region_rel [.is (.string mB), .is (.string oB), .is (.string S4), .is (.string U1), .is (.string S4), .is (.int .u32 (k1 : Int)), .is (.string G1), .is (.string U2), .is (.string S), .is (.string U3), .is (.string S), .is (.int .u32 (k2 : Int)), .is (.string G2), .is (.string U4), .is (.string U4), .is (.int .i64 0)]
          (fun w' => Below w4.heap.size w4 w') [(0, 52), (1, 53), (2, 54), (3, 55), (4, 56), (5, 57), (6, 58), (7, 59), (8, 60), (9, 61), (10, 62), (11, 63), (12, 64), (13, 65), (14, 2), (15, 3)] 16 (by kernel_rfl) (by kernel_rfl) (by kernel_rfl) (by kernel_rfl) ?hC ?hs ?hf
        case hC => exact below_drew (Below.refl _ _)
        case hs =>
          refine stepsOk_succ ?s15 (stepsOk_succ ?s14 (stepsOk_succ ?s13 (stepsOk_succ ?s12 (stepsOk_succ ?s11 (stepsOk_succ ?s10 (stepsOk_succ ?s9 (stepsOk_succ ?s8 (stepsOk_succ ?s7 (stepsOk_succ ?s6 (stepsOk_succ ?s5 (stepsOk_succ ?s4 (stepsOk_succ ?s3 (stepsOk_succ ?s2 (stepsOk_succ ?s1 (stepsOk_succ ?s0 (stepsOk_zero))))))))))))))))
          case s0 =>
            refine stepOk0 rfl (by kernel_rfl) ?_
            rintro w' hC
            intro K hK
            go_simp
            refine (HM.out w').mono ?_
            rintro e w2 ⟨rfl, rfl⟩
            exact hK _ _ rfl ⟨rfl, hC, Below.refl _ _⟩
          case s1 =>
            refine stepOk1 0 52 rfl (by kernel_rfl) ?_
            rintro w' hC v1 rfl
            intro K hK
            have hm := Hms.out
            go_simp
            exact hK _ _ rfl ⟨congrArg Value.string HO.out, hC, Below.refl _ _⟩
          case s2 =>
            refine stepOk0 rfl (by kernel_rfl) ?_
            rintro w' hC
            intro K hK
            go_simp
            exact hK _ _ rfl ⟨rfl, hC, Below.refl _ _⟩
          case s3 =>
            refine stepOk2 1 53 2 54 rfl (by kernel_rfl) ?_
            rintro w' hC v1 v2 rfl rfl
            intro K hK
            have z := V1.out
            go_simp
            exact hK _ _ rfl ⟨congrArg Value.string D1.out, hC, Below.refl _ _⟩
          case s4 =>
            refine stepOk0 rfl (by kernel_rfl) ?_
            rintro w' hC
            intro K hK
            go_simp
            exact hK _ _ rfl ⟨rfl, hC, Below.refl _ _⟩
          case s5 =>
            refine stepOk1 4 56 rfl (by kernel_rfl) ?_
            rintro w' hC v1 rfl
            intro K hK
            go_simp
            refine (HU1.out w').mono ?_
            rintro e w2 ⟨rfl, rfl⟩
            exact hK _ _ rfl ⟨rfl, hC, Below.refl _ _⟩
          case s6 =>
            refine stepOk1 5 57 rfl (by kernel_rfl) ?_
            rintro w' hC v1 rfl
            intro K hK
            go_simp
            refine (HV1.out w').mono ?_
            rintro e w2 ⟨rfl, h1⟩
            exact hK _ _ rfl ⟨rfl, hC.trans (h1.mono hC.size), h1⟩
          case s7 =>
            refine stepOk2 3 55 6 58 rfl (by kernel_rfl) ?_
            rintro w' hC v1 v2 rfl rfl
            intro K hK
            have z := V2.out
            go_simp
            exact hK _ _ rfl ⟨congrArg Value.string D2.out, hC, Below.refl _ _⟩
          case s8 =>
            refine stepOk0 rfl (by kernel_rfl) ?_
            rintro w' hC
            intro K hK
            go_simp
            exact hK _ _ rfl ⟨rfl, hC, Below.refl _ _⟩
          case s9 =>
            refine stepOk2 7 59 8 60 rfl (by kernel_rfl) ?_
            rintro w' hC v1 v2 rfl rfl
            intro K hK
            have z := V3.out
            go_simp
            exact hK _ _ rfl ⟨congrArg Value.string D3.out, hC, Below.refl _ _⟩
          case s10 =>
            refine stepOk0 rfl (by kernel_rfl) ?_
            rintro w' hC
            intro K hK
            go_simp
            exact hK _ _ rfl ⟨rfl, hC, Below.refl _ _⟩
          case s11 =>
            refine stepOk1 10 62 rfl (by kernel_rfl) ?_
            rintro w' hC v1 rfl
            intro K hK
            go_simp
            refine (HU2.out w').mono ?_
            rintro e w2 ⟨rfl, rfl⟩
            exact hK _ _ rfl ⟨rfl, hC, Below.refl _ _⟩
          case s12 =>
            refine stepOk1 11 63 rfl (by kernel_rfl) ?_
            rintro w' hC v1 rfl
            intro K hK
            go_simp
            refine (HV2.out w').mono ?_
            rintro e w2 ⟨rfl, h1⟩
            exact hK _ _ rfl ⟨rfl, hC.trans (h1.mono hC.size), h1⟩
          case s13 =>
            refine stepOk2 9 61 12 64 rfl (by kernel_rfl) ?_
            rintro w' hC v1 v2 rfl rfl
            intro K hK
            have z := V4.out
            go_simp
            exact hK _ _ rfl ⟨congrArg Value.string D4.out, hC, Below.refl _ _⟩
          case s14 =>
            refine stepOk1 13 65 rfl (by kernel_rfl) ?_
            rintro w' hC v1 rfl
            intro K hK
            go_simp
            exact hK _ _ rfl ⟨rfl, hC, Below.refl _ _⟩
          case s15 =>
            refine stepOk0 rfl (by kernel_rfl) ?_
            rintro w' hC
            intro K hK
            go_simp
            exact hK _ _ rfl ⟨rfl, hC, Below.refl _ _⟩
        case hf =>
          intro w' hC x hx
          have e0 : x 52 = (.string mB) := hx (0, 52) (by simp)
          have e1 : x 53 = (.string oB) := hx (1, 53) (by simp)
          have e2 : x 54 = (.string S4) := hx (2, 54) (by simp)
          have e3 : x 55 = (.string U1) := hx (3, 55) (by simp)
          have e4 : x 56 = (.string S4) := hx (4, 56) (by simp)
          have e5 : x 57 = (.int .u32 (k1 : Int)) := hx (5, 57) (by simp)
          have e6 : x 58 = (.string G1) := hx (6, 58) (by simp)
          have e7 : x 59 = (.string U2) := hx (7, 59) (by simp)
          have e8 : x 60 = (.string S) := hx (8, 60) (by simp)
          have e9 : x 61 = (.string U3) := hx (9, 61) (by simp)
          have e10 : x 62 = (.string S) := hx (10, 62) (by simp)
          have e11 : x 63 = (.int .u32 (k2 : Int)) := hx (11, 63) (by simp)
          have e12 : x 64 = (.string G2) := hx (12, 64) (by simp)
          have e13 : x 65 = (.string U4) := hx (13, 65) (by simp)
          have e14 : x 2 = (.string U4) := hx (14, 2) (by simp)
          have e15 : x 3 = (.int .i64 0) := hx (15, 3) (by simp)
          simp only [putAll, List.foldl_cons, List.foldl_nil, e0, e1, e2, e3, e4, e5, e6, e7, e8, e9, e10, e11, e12, e13, e14, e15, Act.put, List.setIfInBounds_toArray, List.set_cons_succ, List.set_cons_zero]
          clear hx e0 e1 e2 e3 e4 e5 e6 e7 e8 e9 e10 e11 e12 e13 e14 e15
          go_wp2_with fail
          go_ret2
          rw [HF2.out, HEND.out]
          exact ⟨rfl, B4.out.trans (hC.mono D4'.out)⟩
    · have hd : decide ((120 : Int) < (S.size : Int)) = true := by rw [decide_eq_true_iff]; omega
      have HF2 := Lib.hid (HF'.out.trans (if_neg hl))
      clear HF' hl hS hSP hz
      go_wp2_with fail
      go_ret2
      rw [HF2.out]
      exact ⟨rfl, B2.out⟩
  · have hcb : (c != 0) = true := by rw [bne_iff_ne]; exact hc
    have HF' := Lib.hid (HF.out.trans (if_neg hc))
    clear hc HF
    go_wp2_with fail
    go_ret2
    rw [HF'.out]
    exact ⟨rfl, B2.out⟩

theorem rfprint_any (q : Nat) (hq : q < 4294967296) (ao : Option Addr) (cap : Nat) (l : List Ev) (w : World) (hs : SeenE w ao cap l) (hf : ∀ e ∈ l, EvFits e) (hn : l.length ≤ 1000000) :
    Calls Tryd.prog 21 #[.agg #[.int .u32 (q : Int), .slice ao l.length cap]] w fun r w' => r = .returned (.tuple #[.string ⟨(frameP q l).1.toArray⟩, .int .i64 (frameP q l).2]) ∧ Below w.heap.size w w' := by
  rcases Nat.eq_zero_or_pos l.length with h | h
  · have e : frameP q l = ([], 8) := by unfold frameP; rw [if_pos h]
    rw [e, h]
    exact rfprint_empty q ao cap w
  · exact rfprint_walk q hq ao cap l h w hs hf hn

end Go.Proofs.YtobioiicbdhboaaDoor

namespace Go.Proofs.YtobioiicbdhboaaDoor
open Go.RowKit
set_option linter.unusedVariables false
set_option linter.unusedSimpArgs false

/-! ### The errors, one by one -/

theorem nextP_err (k : Nat) (c : Int) (h : c ≠ 0) : nextP k (0, [], 0, c) = 0 := by simp [nextP, h]

/-! ### Numbers -/

theorem rsget_to (s : ByteArray) (a c : Nat) (hs : s.size ≤ 1000000) (ha : a ≤ s.size) (h1 : 1 ≤ c) (h2 : c ≤ 10) (w : World) :
    Calls Tryd.prog 38 #[.string s, .int .i64 a, .int .i64 c] w fun e w' => ∃ nx : Nat, e = .returned (.tuple #[.int .u64 ((septGet (s.data.toList.drop a) c).1 : Nat), .int .i64 ((septGet (s.data.toList.drop a) c).2.1 : Nat), .int .i64 (nx : Int)]) ∧
      ((septGet (s.data.toList.drop a) c).2.1 = 0 → nx = a + c ∧ a + c ≤ s.size) ∧ w = w' := by
  refine (rsget_any s a c hs ha h1 h2 w).mono ?_
  rintro e w' ⟨rfl, rfl⟩
  refine ⟨_, rfl, fun h => ?_, rfl⟩
  have := septGet_step h
  rw [List.length_drop, show s.data.toList.length = s.size from rfl] at this
  exact ⟨by rw [this.1], by omega⟩

set_option maxRecDepth 100000 in
theorem rword_any (s : ByteArray) (a : Nat) (hs : s.size ≤ 1000000) (ha : a ≤ s.size) (w : World) :
    Calls Tryd.prog 37 #[.string s, .int .i64 a] w fun e w' => ∃ nx : Nat, e = .returned (.tuple #[.int .u32 ((wordG (s.data.toList.drop a)).1 : Nat), .int .i64 ((wordG (s.data.toList.drop a)).2 : Nat), .int .i64 (nx : Int)]) ∧
      ((wordG (s.data.toList.drop a)).2 = 0 → nx = a + 5 ∧ a + 5 ≤ s.size) ∧ w = w' := by
  have H := Lib.hid (rsget_to s a 5 hs ha (by omega) (by omega) w)
  obtain ⟨W, hW⟩ : ∃ W, W = wordG (s.data.toList.drop a) := ⟨_, rfl⟩
  rw [← hW]
  unfold wordG at hW
  have hlt := septGet_lt (s.data.toList.drop a) 5 (by omega)
  have Herr := Lib.hid (fun h => (septScan_err 5 (s.data.toList.drop a) 0 0 h).1)
  rw [show septScan 0 0 5 (s.data.toList.drop a) = septGet (s.data.toList.drop a) 5 by simp [septGet, septAt, val]] at Herr
  generalize septGet (s.data.toList.drop a) 5 = R at *
  obtain ⟨n, z, m⟩ := R
  simp only at H hlt hW Herr
  have HW := Lib.hid hW
  clear hW hs ha
  go_enter Tryd.func37, Tryd.ntmps37
  go_wp2_with fail
  refine H.out.mono ?_
  rintro e w1 ⟨nx, rfl, hnx, rfl⟩
  have Hnx := Lib.hid hnx
  clear H hnx
  by_cases hz : z = 0
  · have hzb : ((z : Int) == 0) = true := by rw [hz]; rfl
    have HF := Lib.hid (HW.out.trans (if_pos hz))
    have Hz := Lib.hid hz
    clear hz HW
    by_cases hn : n ≤ 4294967295
    · have hd : decide ((4294967295 : Int) < (n : Int)) = false := by rw [decide_eq_false_iff_not]; omega
      have HG := Lib.hid (HF.out.trans (if_pos hn))
      go_wp2_with fail
      go_ret3
      rw [HG.out]
      exact ⟨nx, by rw [Hz.out]; rfl, fun _ => Hnx.out Hz.out, rfl⟩
    · have hd : decide ((4294967295 : Int) < (n : Int)) = true := by rw [decide_eq_true_iff]; omega
      have HG := Lib.hid (HF.out.trans (if_neg hn))
      clear hn
      go_wp2_with fail
      go_ret3
      rw [HG.out]
      exact ⟨nx, rfl, fun h => absurd h (by decide), rfl⟩
  · have hzb : ((z : Int) == 0) = false := by rw [beq_eq_false_iff_ne]; omega
    have HF := Lib.hid (HW.out.trans (if_neg hz))
    have Hz := Lib.hid hz
    obtain rfl : n = 0 := Herr.out hz
    clear hz
    go_wp2_with fail
    go_ret3
    rw [HF.out]
    exact ⟨nx, rfl, fun h => absurd h Hz.out, rfl⟩

set_option maxRecDepth 100000 in
theorem rfsum_any (s : ByteArray) (a : Nat) (y : ByteArray) (hs : s.size ≤ 1000000) (ha : a ≤ s.size) (hy : y.size ≤ maxLen) (w : World) :
    Calls Tryd.prog 39 #[.string s, .int .i64 a, .string y] w fun e w' => ∃ nx : Nat, e = .returned (.tuple #[.int .i64 (sumG (s.data.toList.drop a) (sumL y.data.toList) : Nat), .int .i64 (nx : Int)]) ∧
      (sumG (s.data.toList.drop a) (sumL y.data.toList) = 0 → nx = a + 5 ∧ a + 5 ≤ s.size) ∧ w = w' := by
  have H := Lib.hid (rword_any s a hs ha w)
  have HS := Lib.hid (rsum_any y hy w)
  obtain ⟨W, hW⟩ : ∃ W, W = sumG (s.data.toList.drop a) (sumL y.data.toList) := ⟨_, rfl⟩
  rw [← hW]
  unfold sumG at hW
  generalize wordG (s.data.toList.drop a) = R at *
  obtain ⟨n, z⟩ := R
  simp only at H hW
  generalize sumL y.data.toList = want at *
  have HW := Lib.hid hW
  clear hW hs ha hy
  go_enter Tryd.func39, Tryd.ntmps39
  go_wp2_with fail
  refine H.out.mono ?_
  rintro e w1 ⟨nx, rfl, hnx, rfl⟩
  have Hnx := Lib.hid hnx
  clear H hnx
  by_cases hz : z = 0
  · have hzb : ((z : Int) == 0) = true := by rw [hz]; rfl
    have HF := Lib.hid (HW.out.trans (if_pos hz))
    have Hz := Lib.hid hz
    clear hz HW
    by_cases hn : n = want
    · have hd : ((n : Int) != (want : Int)) = false := by rw [bne_eq_false_iff_eq]; omega
      have HG := Lib.hid (HF.out.trans (if_pos hn))
      clear hn
      go_wp2_with fail
      refine HS.out.mono ?_
      rintro e w1 ⟨rfl, rfl⟩
      go_wp2_with fail
      go_ret2
      rw [HG.out]
      exact ⟨nx, by rw [Hz.out]; rfl, fun _ => Hnx.out Hz.out, rfl⟩
    · have hd : ((n : Int) != (want : Int)) = true := by rw [bne_iff_ne]; omega
      have HG := Lib.hid (HF.out.trans (if_neg hn))
      clear hn
      go_wp2_with fail
      refine HS.out.mono ?_
      rintro e w1 ⟨rfl, rfl⟩
      go_wp2_with fail
      go_ret2
      rw [HG.out]
      exact ⟨nx, rfl, fun h => absurd h (by decide), rfl⟩
  · have hzb : ((z : Int) == 0) = false := by rw [beq_eq_false_iff_ne]; omega
    have HF := Lib.hid (HW.out.trans (if_neg hz))
    have Hz := Lib.hid hz
    clear hz
    go_wp2_with fail
    go_ret2
    rw [HF.out]
    exact ⟨nx, rfl, fun h => absurd h Hz.out, rfl⟩

/-! ### Same -/

theorem mark_go {s : ByteArray} {k i : Nat} (hal : ∀ j, j < i → (s.data.toList.drop k)[j]? = markL[j]?) (h : k + i < s.size) (hi : i < 22) (he : s[k + i] = markB[i]'hi) : ∀ j, j < i + 1 → (s.data.toList.drop k)[j]? = markL[j]? := by
  intro j hj
  by_cases e : j = i
  · subst e
    obtain ⟨h', e'⟩ := drop_get s k j h
    rw [List.getElem?_eq_getElem h', e', he, List.getElem?_eq_getElem (by exact hi)]
    rfl
  · exact hal j (by omega)
theorem mark_end {s : ByteArray} {k i : Nat} (hal : ∀ j, j < i → (s.data.toList.drop k)[j]? = markL[j]?) (hk : k + i = s.size) (hi : i < 22) : markG (s.data.toList.drop k) = 2 := by
  have hl : (s.data.toList.drop k).length = i := by rw [List.length_drop, show s.data.toList.length = s.size from rfl]; omega
  have := agr_eq (s.data.toList.drop k) markL i (by omega) (by rw [show markL.length = 22 from rfl]; omega) hal (.inl hl.symm)
  unfold markG
  rw [this, if_pos hi, if_neg (by omega)]
theorem mark_bad {s : ByteArray} {k i : Nat} (hal : ∀ j, j < i → (s.data.toList.drop k)[j]? = markL[j]?) (h : k + i < s.size) (hi : i < 22) (he : s[k + i] ≠ markB[i]'hi) : markG (s.data.toList.drop k) = 3 := by
  have hl : i < (s.data.toList.drop k).length := by rw [List.length_drop, show s.data.toList.length = s.size from rfl]; omega
  have := agr_eq (s.data.toList.drop k) markL i (by omega) (by rw [show markL.length = 22 from rfl]; omega) hal (.inr (.inr (by
    obtain ⟨h', e'⟩ := drop_get s k i h
    rw [List.getElem?_eq_getElem h', e', List.getElem?_eq_getElem (by exact hi)]
    intro x
    exact he (Option.some.inj x))))
  unfold markG
  rw [this, if_pos hi, if_pos hl]
theorem mark_all {s : ByteArray} {k : Nat} (hal : ∀ j, j < 22 → (s.data.toList.drop k)[j]? = markL[j]?) (hk : k + 22 ≤ s.size) : markG (s.data.toList.drop k) = 0 := by
  have := agr_eq (s.data.toList.drop k) markL 22 (by rw [List.length_drop, show s.data.toList.length = s.size from rfl]; omega) (Nat.le_refl _) hal (.inr (.inl rfl))
  unfold markG
  rw [this, if_neg (by omega)]

set_option maxRecDepth 100000 in
theorem rfread_bad (s : ByteArray) (hs : s.size ≤ maxLen) (k : Int) (hk : k < 0 ∨ (s.size : Int) < k) (w : World) :
    Calls Tryd.prog 28 #[.string s, .int .i64 k] w fun r w' => r = .returned (.tuple #[.agg #[.int .u32 0, .slice none 0 0], .int .i64 0, .int .i64 1]) ∧ Below w.heap.size w w' := by
  obtain ⟨w1, x1⟩ : ∃ w1, w1 = w.alloc (frO 0 none 0 0) := ⟨_, rfl⟩
  obtain ⟨s1, n1, b1⟩ := new_size x1
  have HS := Lib.hid (fr_stored (q := 0) (ao := none) (n := 0) (cap := 0) n1)
  have B1 := Lib.hid b1
  have S1 := Lib.hid s1
  obtain ⟨c0, c1, f0, f1⟩ := frcells n1
  unfold frO at x1
  rw [show ((0 : Nat) : Int) = 0 from rfl] at x1
  rw [x1] at c0 c1 f0 f1
  clear n1 b1 s1
  rcases Int.lt_or_le k 0 with h | h
  · have hd : decide (k < 0) = true := by rw [decide_eq_true_iff]; exact h
    clear hk
    go_enter Tryd.func28, Tryd.ntmps28
    go_wp2_with fail
    refine bodyPost_ret (v := .tuple #[.agg #[.int .u32 0, .slice none 0 0], .int .i64 0, .int .i64 1]) (by rw [results_cell_tmp2 rfl]; go_simp) rfl ⟨rfl, ?_⟩
    first
    | exact (Below.refl _ w).alloc (Nat.le_refl _) _
    | (rw [← x1]; exact below_grown B1.out (by have := S1.out; omega) (Nat.le_refl _) HS.out.2)
  · have hd : decide (k < 0) = false := by rw [decide_eq_false_iff_not]; omega
    have hd2 : decide ((s.size : Int) < k) = true := by rw [decide_eq_true_iff]; omega
    clear hk
    go_enter Tryd.func28, Tryd.ntmps28
    go_wp2_with fail
    refine bodyPost_ret (v := .tuple #[.agg #[.int .u32 0, .slice none 0 0], .int .i64 0, .int .i64 1]) (by rw [results_cell_tmp2 rfl]; go_simp) rfl ⟨rfl, ?_⟩
    first
    | exact (Below.refl _ w).alloc (Nat.le_refl _) _
    | (rw [← x1]; exact below_grown B1.out (by have := S1.out; omega) (Nat.le_refl _) HS.out.2)

theorem byte_ne' {a c : UInt8} (h : a ≠ c) : (((a.toNat : Nat) : Int) != ((c.toNat : Nat) : Int)) = true := by
  rw [bne_iff_ne]
  intro e
  exact h (UInt8.toNat_inj.1 (by omega))

end Go.Proofs.YtobioiicbdhboaaDoor

namespace Go.Proofs.YtobioiicbdhboaaDoor
open Go.RowKit
set_option linter.unusedVariables false
set_option linter.unusedSimpArgs false

theorem wrap64_small (j : Nat) (h : j ≤ 1000000) : IntKind.i64.wrap (j : Int) = (j : Int) := by
  rw [IntKind.wrap_i64]; omega

set_option maxRecDepth 100000 in
set_option maxHeartbeats 16000000 in
theorem rfread_tag (s : ByteArray) (hs : s.size ≤ 1000000) (k : Nat) (hk : k ≤ s.size) (w : World) :
    Calls Tryd.prog 28 #[.string s, .int .i64 k] w fun r w' => ∃ ao cap, r = .returned (.tuple #[.agg #[.int .u32 ((frameR (s.data.toList.drop k)).1 : Nat), .slice ao (frameR (s.data.toList.drop k)).2.1.length cap], .int .i64 (nextP k (frameR (s.data.toList.drop k)) : Nat), .int .i64 (frameR (s.data.toList.drop k)).2.2.2]) ∧ SeenE w' ao cap (frameR (s.data.toList.drop k)).2.1 ∧ EvT w' ao ∧ Below w.heap.size w w' := by
  obtain ⟨w1, x1⟩ : ∃ w1, w1 = w.alloc (frO 0 none 0 0) := ⟨_, rfl⟩
  obtain ⟨s1, n1, b1⟩ := new_size x1
  have N1 := Lib.hid n1
  have B1 := Lib.hid b1
  have D1 := Lib.hid (show w.heap.size ≤ w1.heap.size by omega)
  obtain ⟨D, hD⟩ : ∃ D, w.heap.size = D := ⟨_, rfl⟩
  rw [hD] at N1 B1 D1 ⊢
  have HD := Lib.hid hD
  unfold frO at x1
  rw [show ((0 : Nat) : Int) = 0 from rfl] at x1
  obtain ⟨L, hL⟩ : ∃ L, L = s.data.toList.drop k := ⟨_, rfl⟩
  have HLd := Lib.hid hL
  have HG := Lib.hid (fun i hal h hi he => mark_go (s := s) (k := k) (i := i) hal h hi he)
  have HM2 := Lib.hid (fun i hal hk hi => mark_end (s := s) (k := k) (i := i) hal hk hi)
  have HM3 := Lib.hid (fun i hal h hi he => mark_bad (s := s) (k := k) (i := i) hal h hi he)
  have HM0 := Lib.hid (fun hal hk => mark_all (s := s) (k := k) hal hk)
  rw [← hL] at HG HM2 HM3 HM0 ⊢
  have hms : markB.size = 22 := rfl
  clear n1 b1 s1 hD hL
  have hd0 : decide ((k : Int) < 0) = false := by rw [decide_eq_false_iff_not]; omega
  have hdk : decide ((s.size : Int) < (k : Int)) = false := by rw [decide_eq_false_iff_not]; omega
  go_enter Tryd.func28, Tryd.ntmps28
  go_wp2_with fail
  rw [← x1, HD.out]
  clear x1
  refine (rmarker_any w1).mono ?_
  rintro e w2 ⟨rfl, rfl⟩
  go_wp2_with fail
  go_loopw [8] (fun x wr => ∃ (i n : Nat), x = .int .i64 i ∧ i ≤ 22 ∧ k + i ≤ s.size ∧ (∀ j, j < i → L[j]? = markL[j]?) ∧ Hid (wr = w1.drewN n)) (fun x _ => 22 - (intOf x).toNat)
  case atStart => exact ⟨0, 0, rfl, by omega, by omega, fun j hj => absurd hj (by omega), Lib.hid rfl⟩
  case round =>
    obtain ⟨i, n, rfl, hi, hki, hal, hw⟩ := hrel
    have NW : Hid (wr.heap[D]? = some (frO 0 none 0 0)) := Lib.hid (by rw [hw.out]; exact N1.out)
    have BW : Hid (Below D w wr) := Lib.hid (by rw [hw.out]; exact below_drewN B1.out n)
    have DW : Hid (D ≤ wr.heap.size) := Lib.hid (Nat.le_of_lt (blk_lt NW.out))
    have HS := Lib.hid (fr_stored (q := 0) (ao := none) (n := 0) (cap := 0) NW.out)
    by_cases hi22 : i < 22
    · by_cases hlt : k + i < s.size
      · have hiB : i < markB.size := hi22
        have Hgo := Lib.hid (fun hc => HG.out i hal hlt hi22 hc)
        have Hbad := Lib.hid (fun hc => HM3.out i hal hlt hi22 hc)
        obtain ⟨j, hj⟩ : ∃ j, j = k + i := ⟨_, rfl⟩
        have hjI : (k : Int) + (i : Int) = (j : Int) := by omega
        have hwr : IntKind.i64.wrap ((k : Int) + (i : Int)) = (j : Int) := by rw [hjI]; exact wrap64_small j (by omega)
        have hlt' : j < s.size := by omega
        have hltI : (j : Int) < (s.size : Int) := by omega
        have hj0 : (0 : Int) ≤ (j : Int) := by omega
        have hj1 : decide ((s.size : Int) ≤ (j : Int)) = false := by rw [decide_eq_false_iff_not]; omega
        have hs1 : s[k + i] = s[j] := by simp only [hj]
        rw [hs1] at Hgo Hbad
        have Hj := Lib.hid hj
        clear hs1 hj
        by_cases hc : s[j] = markB[i]
        · have Hal := Lib.hid (Hgo.out hc)
          have hb : (((s[j].toNat : Nat) : Int) != ((markB[i].toNat : Nat) : Int)) = false := by rw [hc]; simp
          have Hc := Lib.hid hc
          have Hw := hw
          clear hc hal hw NW BW DW HS
          go_wp2_with fail
          go_quiet (fail)
          go_wp2_with fail
          go_roundw
          case rel => exact ⟨i + 1, n + nq, by go_num, by omega, by omega, Hal.out, Lib.hid (by rw [Hw.out]; exact drewN_drewN _ _ _)⟩
          case measure => simp [intOf]; omega
        · have hb := byte_ne' hc
          have P0 := Lib.hid (Hbad.out hc)
          have P1 := Lib.hid (by have := fr_mark (L := L) (by rw [P0.out]; decide); rw [P0.out] at this; exact this)
          clear hc hal HS
          go_wp2_with fail
          go_quiet (fail)
          have NW' : Hid ((wr.drewN nq).heap[D]? = some (frO 0 none 0 0)) := NW
          have HS := Lib.hid (fr_stored (q := 0) (ao := none) (n := 0) (cap := 0) NW'.out)
          obtain ⟨c0, c1, f0, f1⟩ := frcells NW'.out
          have BW' := Lib.hid (below_drewN BW.out nq)
          have DW' : Hid (D ≤ (wr.drewN nq).heap.size) := DW
          generalize wr.drewN nq = wr2 at *
          go_wp2_with fail
          refine bodyPost_ret (v := .tuple #[.agg #[.int .u32 0, .slice none 0 0], .int .i64 0, .int .i64 3]) (by rw [results_cell_tmp2 rfl]; go_simp) rfl ⟨none, 0, ?_⟩
          rw [P1.out, nextP_err k _ (by decide)]
          exact ⟨rfl, seenE_none _, evT_none _, below_grown BW'.out DW'.out (Nat.le_refl _) HS.out.2⟩
      · have P0 := Lib.hid (HM2.out i hal (by omega) hi22)
        have P1 := Lib.hid (by have := fr_mark (L := L) (by rw [P0.out]; decide); rw [P0.out] at this; exact this)
        obtain ⟨c0, c1, f0, f1⟩ := frcells NW.out
        clear hal
        go_wp2_with fail
        refine bodyPost_ret (v := .tuple #[.agg #[.int .u32 0, .slice none 0 0], .int .i64 0, .int .i64 2]) (by rw [results_cell_tmp2 rfl]; go_simp) rfl ⟨none, 0, ?_⟩
        rw [P1.out, nextP_err k _ (by decide)]
        exact ⟨rfl, seenE_none _, evT_none _, below_grown BW.out DW.out (Nat.le_refl _) HS.out.2⟩
    · obtain rfl : i = 22 := by omega
      have P0 := Lib.hid (HM0.out hal hki)
      clear hal HM0 HM2 HM3 HG hi hi22 hd0 hdk hms
      obtain ⟨c0, c1, f0, f1⟩ := frcells NW.out
      obtain ⟨k22, h22⟩ : ∃ x, x = k + 22 := ⟨_, rfl⟩
      obtain ⟨k27, h27⟩ : ∃ x, x = k + 27 := ⟨_, rfl⟩
      obtain ⟨k37, h37⟩ : ∃ x, x = k + 37 := ⟨_, rfl⟩
      obtain ⟨k47, h47⟩ : ∃ x, x = k + 47 := ⟨_, rfl⟩
      obtain ⟨k49, h49⟩ : ∃ x, x = k + 49 := ⟨_, rfl⟩
      obtain ⟨k54, h54⟩ : ∃ x, x = k + 54 := ⟨_, rfl⟩
      obtain ⟨k16, h16⟩ : ∃ x, x = k + 16 := ⟨_, rfl⟩
      have L22 : (L.drop 22) = s.data.toList.drop k22 := by rw [HLd.out, List.drop_drop, h22]
      have L27 : (L.drop 22).drop 5 = s.data.toList.drop k27 := by rw [HLd.out, List.drop_drop, List.drop_drop, h27]
      have L37 : (L.drop 22).drop 15 = s.data.toList.drop k37 := by rw [HLd.out, List.drop_drop, List.drop_drop, h37]
      have L47 : (L.drop 22).drop 25 = s.data.toList.drop k47 := by rw [HLd.out, List.drop_drop, List.drop_drop, h47]
      have L49 : L.drop 49 = s.data.toList.drop k49 := by rw [HLd.out, List.drop_drop, h49]
      have L54 : L.drop 54 = s.data.toList.drop k54 := by rw [HLd.out, List.drop_drop, h54]
      obtain ⟨NG, W0⟩ : ∃ NG, NG = numsG (L.drop 22) := ⟨_, rfl⟩
      have HNG := W0
      unfold numsG at W0
      rw [L27, L37, L47] at W0
      have H1 := Lib.hid (rword_any s k22 hs (by omega) wr)
      have H2 := Lib.hid (fun ha => rsget_to s k27 10 hs ha (by omega) (by omega) wr)
      have H3 := Lib.hid (fun ha => rsget_to s k37 10 hs ha (by omega) (by omega) wr)
      have H4 := Lib.hid (fun ha => rsget_to s k47 2 hs ha (by omega) (by omega) wr)
      rw [← L22] at H1
      have hn1 := wordG_lt (L.drop 22)
      have hn2 := septGet_lt (s.data.toList.drop k27) 10 (by omega)
      have hn3 := septGet_lt (s.data.toList.drop k37) 10 (by omega)
      have hn4 := septGet_lt (s.data.toList.drop k47) 2 (by omega)
      have FN := Lib.hid (fun c H h hc => fr_nums (L := L) (c := c) (H := H) P0.out h hc)
      have FS := Lib.hid (fun c H h2 h3 hc => fr_sum (L := L) (c := c) (H := H) P0.out h2 h3 hc)
      have FP := Lib.hid (fun c p H h2 h3 h4 hc => fr_pay (L := L) (c := c) (p := p) (H := H) P0.out h2 h3 h4 hc)
      have FE := Lib.hid (fun (c : Int) l p H h2 h3 h4 h5 hc => fr_evs (L := L) (c := c) (l := l) (p := p) (H := H) P0.out h2 h3 h4 h5 hc)
      have FO := Lib.hid (fun l p H h2 h3 h4 h5 => fr_ok (L := L) (l := l) (p := p) (H := H) P0.out h2 h3 h4 h5)
      rw [← HNG] at FN FS FP FE FO
      clear HNG
      rw [L49] at FS FP FE FO
      rw [L54] at FP FE FO
      obtain ⟨y, hy⟩ : ∃ y : ByteArray, y = s.extract k16 k49 := ⟨_, rfl⟩
      have hyl : k49 ≤ s.size → (L.drop 16).take 33 = y.data.toList := fun hle => by rw [hy, extract_part s k16 k49 hle, HLd.out, List.drop_drop, h16, h49]; congr 1; omega
      have hym : y.size ≤ maxLen := Nat.le_trans (by rw [hy, ByteArray.size_extract]; omega) (show s.size ≤ maxLen by unfold maxLen; omega)
      have H5 := Lib.hid (fun ha => rfsum_any s k49 y hs ha hym wr)
      have Hyl := Lib.hid hyl
      have Hy := Lib.hid hy
      generalize wordG (L.drop 22) = A1 at *
      generalize septGet (s.data.toList.drop k27) 10 = A2 at *
      generalize septGet (s.data.toList.drop k37) 10 = A3 at *
      generalize septGet (s.data.toList.drop k47) 2 = A4 at *
      obtain ⟨q, z1⟩ := A1
      obtain ⟨cy, z2, m2⟩ := A2
      obtain ⟨cn, z3, m3⟩ := A3
      obtain ⟨z, z4, m4⟩ := A4
      simp only at H1 H2 H3 H4 W0 hn1 hn2 hn3 hn4
      have WW := Lib.hid W0
      clear W0
      have Q := Lib.hid (show k22 + 5 = k27 ∧ k27 + 10 = k37 ∧ k37 + 10 = k47 ∧ k47 + 2 = k49 ∧ k49 + 5 = k54 ∧ k54 = k + 54 ∧ k16 ≤ k49 by omega)
      have hkI : (k : Int) + 22 = (k22 : Int) := by omega
      have hkJ : (k : Int) + 16 = (k16 : Int) := by omega
      rw [Q.out.1] at H1
      rw [Q.out.2.1] at H2
      rw [Q.out.2.2.1] at H3
      rw [Q.out.2.2.2.1] at H4
      rw [Q.out.2.2.2.2.1] at H5
      have hk22m : k22 ≤ 1000000 := by omega
      have hk16m : k16 ≤ 1000000 := by omega
      have HLE := Lib.hid hs
      clear L22 L27 L37 L47 L49 L54 h22 h27 h37 h47 h49 h54 h16 hy hyl hym hki HLd
      go_wp2_with fail
      refine H1.out.mono ?_
      rintro e w3 ⟨nx, rfl, hnx, rfl⟩
      have Hnx := Lib.hid hnx
      clear H1 hnx
      by_cases hz1 : z1 = 0
      · have hb1 : ((z1 : Int) != 0) = false := by rw [hz1]; rfl
        have W1 := Lib.hid (WW.out.trans (if_pos hz1))
        obtain ⟨hq, hle27⟩ := Hnx.out hz1
        obtain rfl := hq.symm
        have H2 := Lib.hid (H2.out hle27)
        clear hz1 WW Hnx
        go_wp2_with fail
        refine H2.out.mono ?_
        rintro e w3 ⟨nx2, rfl, hnx, rfl⟩
        have Hnx := Lib.hid hnx
        clear H2 hnx
        by_cases hz2 : z2 = 0
        · have hb2 : ((z2 : Int) != 0) = false := by rw [hz2]; rfl
          have W2 := Lib.hid (W1.out.trans (if_pos hz2))
          obtain ⟨hq, hle37⟩ := Hnx.out hz2
          obtain rfl := hq.symm
          have H3 := Lib.hid (H3.out hle37)
          clear hz2 W1 Hnx
          go_wp2_with fail
          refine H3.out.mono ?_
          rintro e w3 ⟨nx3, rfl, hnx, rfl⟩
          have Hnx := Lib.hid hnx
          clear H3 hnx
          by_cases hz3 : z3 = 0
          · have hb3 : ((z3 : Int) != 0) = false := by rw [hz3]; rfl
            have W3 := Lib.hid (W2.out.trans (if_pos hz3))
            obtain ⟨hq, hle47⟩ := Hnx.out hz3
            obtain rfl := hq.symm
            have H4 := Lib.hid (H4.out hle47)
            clear hz3 W2 Hnx
            go_wp2_with fail
            refine H4.out.mono ?_
            rintro e w3 ⟨nx4, rfl, hnx, rfl⟩
            have Hnx := Lib.hid hnx
            clear H4 hnx
            by_cases hz4 : z4 = 0
            · have hb4 : ((z4 : Int) != 0) = false := by rw [hz4]; rfl
              have W4 := Lib.hid (W3.out.trans (if_pos hz4))
              obtain ⟨hq, hle49⟩ := Hnx.out hz4
              obtain rfl := hq.symm
              clear hz4 W3 Hnx
              by_cases hr : 1 ≤ z ∧ z ≤ 120
              · have hd1 : decide ((z : Int) < 1) = false := by rw [decide_eq_false_iff_not]; omega
                have hd2 : decide ((120 : Int) < (z : Int)) = false := by rw [decide_eq_false_iff_not]; omega
                have W5 := Lib.hid (W4.out.trans (if_pos hr))
                have hz120 : z ≤ 120 := hr.2
                have hz1' : 1 ≤ z := hr.1
                have H5 := Lib.hid (H5.out hle49)
                have FS := Lib.hid (fun c h3 hc => FS.out c _ W5.out h3 hc)
                have FP := Lib.hid (fun c p h3 h4 hc => FP.out c p _ W5.out h3 h4 hc)
                have FE := Lib.hid (fun c l p h3 h4 h5 hc => FE.out c l p _ W5.out h3 h4 h5 hc)
                have FO := Lib.hid (fun l p h3 h4 h5 => FO.out l p _ W5.out h3 h4 h5)
                rw [Hyl.out hle49] at FS FP FE FO
                simp only at FP FE FO
                have hk16 : k16 ≤ k49 := Q.out.2.2.2.2.2.2
                clear hr W4 W5 Hyl FN
                go_wp2_with fail
                rw [← Hy.out]
                refine H5.out.mono ?_
                rintro e w3 ⟨nx5, rfl, hnx, rfl⟩
                generalize sumG (s.data.toList.drop k49) (sumL y.data.toList) = z5 at *
                have Hnx := Lib.hid hnx
                clear H5 hnx
                by_cases hz5 : z5 = 0
                · have hb5 : ((z5 : Int) != 0) = false := by rw [hz5]; rfl
                  obtain ⟨hq, hle54⟩ := Hnx.out hz5
                  obtain rfl := hq.symm
                  have FP := Lib.hid (fun c p h4 hc => FP.out c p hz5 h4 hc)
                  have FE := Lib.hid (fun c l p h4 h5 hc => FE.out c l p hz5 h4 h5 hc)
                  have FO := Lib.hid (fun l p h4 h5 => FO.out l p hz5 h4 h5)
                  have HPG : Hid (payG (s.data.toList.drop k54) z = _) := Lib.hid rfl
                  clear hz5 Hnx FS
                  obtain ⟨rr, hrr⟩ : ∃ rr, rr = s.size - k54 := ⟨_, rfl⟩
                  have hrI : (s.size : Int) - (k54 : Int) = (rr : Int) := by omega
                  by_cases hzr : z ≤ rr
                  · have hdr : decide ((rr : Int) < (z : Int)) = false := by rw [decide_eq_false_iff_not]; omega
                    obtain ⟨kz, hkz⟩ : ∃ x, x = k54 + z := ⟨_, rfl⟩
                    obtain ⟨kk, hkk⟩ : ∃ x, x = kz + 5 := ⟨_, rfl⟩
                    obtain ⟨p, hp⟩ : ∃ p : ByteArray, p = s.extract k54 kz := ⟨_, rfl⟩
                    have hpl : (s.data.toList.drop k54).take z = p.data.toList := by rw [hp, extract_part s k54 kz (by omega)]; congr 1; omega
                    have hpz : p.size = z := by rw [hp, ByteArray.size_extract]; omega
                    have H6 := Lib.hid (rfsum_any s kz p HLE.out (by omega) (by unfold maxLen; omega) wr)
                    have PG : payG (s.data.toList.drop k54) z = if sumG (s.data.toList.drop kz) (sumL p.data.toList) = 0 then (p.data.toList, 0) else ([], sumG (s.data.toList.drop kz) (sumL p.data.toList)) := by
                      unfold payG
                      rw [List.length_drop, show s.data.toList.length = s.size from rfl, if_pos (by omega), List.drop_drop, ← hkz, hpl]
                    have PG := Lib.hid PG
                    have H7 := Lib.hid (rread_tag cy cn p (by omega) hn2 hn3 wr)
                    have Hsm := Lib.hid (fun h => read_some (cyc := cy) (cnt := cn) (p := p.data.toList) (by intro h; have h2 : p.data.toList.length = p.size := rfl; rw [h] at h2; simp at h2; omega) h)
                    obtain ⟨EG, EV⟩ : ∃ EG, EG = evsG cy cn p.data.toList := ⟨_, rfl⟩
                    have FE := Lib.hid (fun c l h4 h5 hc => FE.out c l p.data.toList h4 (EV.symm.trans h5) hc)
                    have FO := Lib.hid (fun l h4 h5 => FO.out l p.data.toList h4 (EV.symm.trans h5))
                    unfold evsG at EV
                    have EVV := Lib.hid EV
                    clear EV
                    have hzI : (k54 : Int) + (z : Int) = (kz : Int) := by omega
                    have hle : k54 ≤ kz := by omega
                    have hkzs : kz ≤ s.size := by omega
                    have HKK := Lib.hid (show k + (59 + z) = kk by have := Q.out; omega)
                    have HPP := Lib.hid hp
                    rw [← hkk] at H6
                    generalize payG (s.data.toList.drop k54) z = PP at *
                    generalize readL cy cn p.data.toList = R at *
                    obtain ⟨l, c⟩ := R
                    simp only at H7 Hsm EVV
                    clear hp hpl hpz hkz hkk HPG
                    go_wp2_with fail
                    rw [← HPP.out]
                    refine H6.out.mono ?_
                    rintro e w3 ⟨nx6, rfl, hnx, rfl⟩
                    generalize sumG (s.data.toList.drop kz) (sumL p.data.toList) = z6 at *
                    have Hnx := Lib.hid hnx
                    clear H6 hnx
                    by_cases hz6 : z6 = 0
                    · have hb6 : ((z6 : Int) != 0) = false := by rw [hz6]; rfl
                      obtain ⟨hq, -⟩ := Hnx.out hz6
                      obtain rfl := hq.symm
                      have P6 := Lib.hid (PG.out.trans (if_pos hz6))
                      have FE := Lib.hid (fun c l h5 hc => FE.out c l P6.out h5 hc)
                      have FO := Lib.hid (fun l h5 => FO.out l P6.out h5)
                      clear hz6 Hnx PG P6 FP
                      go_wp2_with fail
                      refine H7.out.mono ?_
                      rintro e w4 ⟨ao, cap, rfl, s4, t4, b4⟩
                      have N4 := Lib.hid ((b4.block _ (blk_lt NW.out)).trans NW.out)
                      have B4 := Lib.hid (BW.out.trans (b4.mono DW.out))
                      have D4 := Lib.hid (Nat.le_trans DW.out b4.size)
                      have S4 := Lib.hid s4
                      have T4 := Lib.hid t4
                      clear b4 s4 t4 NW BW DW HS c0 c1 f0 f1 H7
                      obtain ⟨c0, c1, f0, f1⟩ := frcells N4.out
                      by_cases hc : c = 0
                      · have hcb : (c == 0) = true := by rw [hc]; rfl
                        have E1 := Lib.hid (EVV.out.trans (if_pos hc))
                        have hl := Hsm.out hc
                        have hlI : (0 : Int) < (l.length : Int) := by omega
                        have Hc := Lib.hid hc
                        clear hc Hsm EVV
                        obtain ⟨b, off, rfl, hb, a6⟩ := S4.out.at 0 hl
                        obtain ⟨e, he⟩ : ∃ e, e = l[0] := ⟨_, rfl⟩
                        have hge : l.getD 0 ev0 = e := by rw [he]; simp [List.getD, List.getElem?_eq_getElem hl]
                        rw [← he] at a6
                        rw [hge] at E1
                        obtain ⟨d0, d1, d2, d3, d4, d5⟩ := a6
                        simp only [Nat.zero_mul, Nat.add_zero] at d0 d1 d2 d3 d4 d5
                        clear he hge hb
                        by_cases h1 : e.cyc = cy
                        · have hy1 : ((e.cyc : Int) != (cy : Int)) = false := by rw [bne_eq_false_iff_eq]; omega
                          by_cases h2 : e.cnt = cn
                          · have hy2 : ((e.cnt : Int) != (cn : Int)) = false := by rw [bne_eq_false_iff_eq]; omega
                            have P9 := Lib.hid (FO.out l (E1.out.trans (if_pos ⟨h1, h2⟩)))
                            have HS := Lib.hid (fr_stored (q := q) (ao := some ⟨b, off, none⟩) (n := l.length) (cap := cap) N4.out)
                            have hcb' : (c != 0) = false := by rw [Hc.out]; rfl
                            clear h1 h2 E1
                            go_wp2_with fail
                            refine bodyPost_ret (v := .tuple #[.agg #[.int .u32 q, .slice (some ⟨b, off, none⟩) l.length cap], .int .i64 kk, .int .i64 0]) (by rw [results_cell_tmp2 rfl]; go_simp) rfl ⟨some ⟨b, off, none⟩, cap, ?_⟩
                            rw [P9.out]
                            refine ⟨?_, S4.out.frame N4.out HS.out.2, T4.out.frame N4.out HS.out.2, below_grown B4.out D4.out (Nat.le_refl _) HS.out.2⟩
                            simp only [nextP, if_true, HKK.out]
                          · have hy2 : ((e.cnt : Int) != (cn : Int)) = true := by rw [bne_iff_ne]; omega
                            have P9 := Lib.hid (FE.out 3 [] (E1.out.trans (if_neg (fun h => h2 h.2))) (by decide))
                            have HS := Lib.hid (fr_stored (q := 0) (ao := none) (n := 0) (cap := 0) N4.out)
                            clear h1 h2 E1
                            go_wp2_with fail
                            refine bodyPost_ret (v := .tuple #[.agg #[.int .u32 0, .slice none 0 0], .int .i64 0, .int .i64 3]) (by rw [results_cell_tmp2 rfl]; go_simp) rfl ⟨none, 0, ?_⟩
                            rw [P9.out, nextP_err k _ (by decide)]
                            exact ⟨rfl, seenE_none _, evT_none _, below_grown B4.out D4.out (Nat.le_refl _) HS.out.2⟩
                        · have hy1 : ((e.cyc : Int) != (cy : Int)) = true := by rw [bne_iff_ne]; omega
                          have P9 := Lib.hid (FE.out 3 [] (E1.out.trans (if_neg (fun h => h1 h.1))) (by decide))
                          have HS := Lib.hid (fr_stored (q := 0) (ao := none) (n := 0) (cap := 0) N4.out)
                          clear h1 E1
                          go_wp2_with fail
                          refine bodyPost_ret (v := .tuple #[.agg #[.int .u32 0, .slice none 0 0], .int .i64 0, .int .i64 3]) (by rw [results_cell_tmp2 rfl]; go_simp) rfl ⟨none, 0, ?_⟩
                          rw [P9.out, nextP_err k _ (by decide)]
                          exact ⟨rfl, seenE_none _, evT_none _, below_grown B4.out D4.out (Nat.le_refl _) HS.out.2⟩
                      · have hcb : (c == 0) = false := by rw [beq_eq_false_iff_ne]; exact hc
                        have hcb' : (c != 0) = true := by rw [bne_iff_ne]; exact hc
                        have P9 := Lib.hid (FE.out c [] (EVV.out.trans (if_neg hc)) hc)
                        have HS := Lib.hid (fr_stored (q := 0) (ao := none) (n := 0) (cap := 0) N4.out)
                        have Hc := Lib.hid hc
                        clear hc EVV Hsm
                        go_wp2_with fail
                        refine bodyPost_ret (v := .tuple #[.agg #[.int .u32 0, .slice none 0 0], .int .i64 0, .int .i64 c]) (by rw [results_cell_tmp2 rfl]; go_simp) rfl ⟨none, 0, ?_⟩
                        rw [P9.out, nextP_err k _ Hc.out]
                        exact ⟨rfl, seenE_none _, evT_none _, below_grown B4.out D4.out (Nat.le_refl _) HS.out.2⟩
                    · have hb6 : ((z6 : Int) != 0) = true := by rw [bne_iff_ne]; omega
                      have P9 := Lib.hid (FP.out z6 [] (PG.out.trans (if_neg hz6)) hz6)
                      have Hz := Lib.hid hz6
                      clear hz6 PG
                      go_wp2_with fail
                      refine bodyPost_ret (v := .tuple #[.agg #[.int .u32 0, .slice none 0 0], .int .i64 0, .int .i64 z6]) (by rw [results_cell_tmp2 rfl]; go_simp) rfl ⟨none, 0, ?_⟩
                      rw [P9.out, nextP_err k _ (by have := Hz.out; omega)]
                      exact ⟨rfl, seenE_none _, evT_none _, below_grown BW.out DW.out (Nat.le_refl _) HS.out.2⟩
                  · have hdr : decide ((rr : Int) < (z : Int)) = true := by rw [decide_eq_true_iff]; omega
                    have P9 := Lib.hid (FP.out 2 [] (by unfold payG; rw [List.length_drop, show s.data.toList.length = s.size from rfl, if_neg (by omega)]) (by decide))
                    clear hrr HPG
                    go_wp2_with fail
                    refine bodyPost_ret (v := .tuple #[.agg #[.int .u32 0, .slice none 0 0], .int .i64 0, .int .i64 2]) (by rw [results_cell_tmp2 rfl]; go_simp) rfl ⟨none, 0, ?_⟩
                    rw [P9.out, nextP_err k _ (by decide)]
                    exact ⟨rfl, seenE_none _, evT_none _, below_grown BW.out DW.out (Nat.le_refl _) HS.out.2⟩
                · have hb5 : ((z5 : Int) != 0) = true := by rw [bne_iff_ne]; omega
                  have P9 := Lib.hid (FS.out z5 rfl hz5)
                  have Hz := Lib.hid hz5
                  clear hz5 Hnx
                  go_wp2_with fail
                  refine bodyPost_ret (v := .tuple #[.agg #[.int .u32 0, .slice none 0 0], .int .i64 0, .int .i64 z5]) (by rw [results_cell_tmp2 rfl]; go_simp) rfl ⟨none, 0, ?_⟩
                  rw [P9.out, nextP_err k _ (by have := Hz.out; omega)]
                  exact ⟨rfl, seenE_none _, evT_none _, below_grown BW.out DW.out (Nat.le_refl _) HS.out.2⟩
              · have W5 := Lib.hid (W4.out.trans (if_neg hr))
                have P9 := Lib.hid (FN.out 4 _ W5.out (by decide))
                clear W4
                by_cases hd : (z : Int) < 1
                · have hd1 : decide ((z : Int) < 1) = true := by rw [decide_eq_true_iff]; omega
                  clear hr W5
                  go_wp2_with fail
                  refine bodyPost_ret (v := .tuple #[.agg #[.int .u32 0, .slice none 0 0], .int .i64 0, .int .i64 4]) (by rw [results_cell_tmp2 rfl]; go_simp) rfl ⟨none, 0, ?_⟩
                  rw [P9.out, nextP_err k _ (by decide)]
                  exact ⟨rfl, seenE_none _, evT_none _, below_grown BW.out DW.out (Nat.le_refl _) HS.out.2⟩
                · have hd1 : decide ((z : Int) < 1) = false := by rw [decide_eq_false_iff_not]; omega
                  have hd2 : decide ((120 : Int) < (z : Int)) = true := by rw [decide_eq_true_iff]; omega
                  have hz120 : 120 < z := by omega
                  clear hr W5
                  go_wp2_with fail
                  refine bodyPost_ret (v := .tuple #[.agg #[.int .u32 0, .slice none 0 0], .int .i64 0, .int .i64 4]) (by rw [results_cell_tmp2 rfl]; go_simp) rfl ⟨none, 0, ?_⟩
                  rw [P9.out, nextP_err k _ (by decide)]
                  exact ⟨rfl, seenE_none _, evT_none _, below_grown BW.out DW.out (Nat.le_refl _) HS.out.2⟩
            · have hb4 : ((z4 : Int) != 0) = true := by rw [bne_iff_ne]; omega
              have P9 := Lib.hid (FN.out z4 _ (W3.out.trans (if_neg hz4)) hz4)
              have Hz := Lib.hid hz4
              clear hz4 W3 Hnx
              go_wp2_with fail
              refine bodyPost_ret (v := .tuple #[.agg #[.int .u32 0, .slice none 0 0], .int .i64 0, .int .i64 z4]) (by rw [results_cell_tmp2 rfl]; go_simp) rfl ⟨none, 0, ?_⟩
              rw [P9.out, nextP_err k _ (by have := Hz.out; omega)]
              exact ⟨rfl, seenE_none _, evT_none _, below_grown BW.out DW.out (Nat.le_refl _) HS.out.2⟩
          · have hb3 : ((z3 : Int) != 0) = true := by rw [bne_iff_ne]; omega
            have P9 := Lib.hid (FN.out z3 _ (W2.out.trans (if_neg hz3)) hz3)
            have Hz := Lib.hid hz3
            clear hz3 W2 Hnx
            go_wp2_with fail
            refine bodyPost_ret (v := .tuple #[.agg #[.int .u32 0, .slice none 0 0], .int .i64 0, .int .i64 z3]) (by rw [results_cell_tmp2 rfl]; go_simp) rfl ⟨none, 0, ?_⟩
            rw [P9.out, nextP_err k _ (by have := Hz.out; omega)]
            exact ⟨rfl, seenE_none _, evT_none _, below_grown BW.out DW.out (Nat.le_refl _) HS.out.2⟩
        · have hb2 : ((z2 : Int) != 0) = true := by rw [bne_iff_ne]; omega
          have P9 := Lib.hid (FN.out z2 _ (W1.out.trans (if_neg hz2)) hz2)
          have Hz := Lib.hid hz2
          clear hz2 W1 Hnx
          go_wp2_with fail
          refine bodyPost_ret (v := .tuple #[.agg #[.int .u32 0, .slice none 0 0], .int .i64 0, .int .i64 z2]) (by rw [results_cell_tmp2 rfl]; go_simp) rfl ⟨none, 0, ?_⟩
          rw [P9.out, nextP_err k _ (by have := Hz.out; omega)]
          exact ⟨rfl, seenE_none _, evT_none _, below_grown BW.out DW.out (Nat.le_refl _) HS.out.2⟩
      · have hb1 : ((z1 : Int) != 0) = true := by rw [bne_iff_ne]; omega
        have P9 := Lib.hid (FN.out z1 _ (WW.out.trans (if_neg hz1)) hz1)
        have Hz := Lib.hid hz1
        clear hz1 WW Hnx
        go_wp2_with fail
        refine bodyPost_ret (v := .tuple #[.agg #[.int .u32 0, .slice none 0 0], .int .i64 0, .int .i64 z1]) (by rw [results_cell_tmp2 rfl]; go_simp) rfl ⟨none, 0, ?_⟩
        rw [P9.out, nextP_err k _ (by have := Hz.out; omega)]
        exact ⟨rfl, seenE_none _, evT_none _, below_grown BW.out DW.out (Nat.le_refl _) HS.out.2⟩

theorem rfread_any (s : ByteArray) (hs : s.size ≤ 1000000) (k : Nat) (hk : k ≤ s.size) (w : World) :
    Calls Tryd.prog 28 #[.string s, .int .i64 k] w fun r w' => ∃ ao cap, r = .returned (.tuple #[.agg #[.int .u32 ((frameR (s.data.toList.drop k)).1 : Nat), .slice ao (frameR (s.data.toList.drop k)).2.1.length cap], .int .i64 (nextP k (frameR (s.data.toList.drop k)) : Nat), .int .i64 (frameR (s.data.toList.drop k)).2.2.2]) ∧ SeenE w' ao cap (frameR (s.data.toList.drop k)).2.1 ∧ Below w.heap.size w w' := by
  refine (rfread_tag s hs k hk w).mono ?_
  rintro r w' ⟨ao, cap, h1, h2, -, h3⟩
  exact ⟨ao, cap, h1, h2, h3⟩

end Go.Proofs.YtobioiicbdhboaaDoor
