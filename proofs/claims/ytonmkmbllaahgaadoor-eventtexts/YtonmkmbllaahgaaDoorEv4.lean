/-
  What event's Text does, over this seat's translation. Conditions: the listed variables (EvL).
-/
import Derived.Test.YtonmkmbllaahgaaDoorEv3
import Derived.Test.YtonmkmbllaahgaaDoorRel
namespace Go.Proofs.YtonmkmbllaahgaaDoor
open Go.RowKit
set_option linter.unusedVariables false
set_option linter.unusedSimpArgs false

theorem below_drew {w w' : World} {B : Nat} (h : Below B w w') : Below B w w'.drew := ⟨h.os, h.tape, h.output, h.size, h.block⟩

set_option maxRecDepth 100000 in
set_option maxHeartbeats 1000000 in
theorem text_bad (e : Ev) (hc : checkN e ≠ 0) (w : World) (hL : EvL w) :
    Calls Tryd.prog 18 #[evV e] w fun r w' => r = .returned (.tuple #[.string ⟨#[]⟩, .int .i64 (checkN e)]) ∧ Below w.heap.size w w' := by
  obtain ⟨w1, hw1⟩ : ∃ w1, w1 = w.alloc (evO e) := ⟨_, rfl⟩
  obtain ⟨k0, k1, k2, k3, k4, k5, bl⟩ := evO_at hw1
  have H := Lib.hid (check_any e w1 (hL.below bl))
  have hne : (checkN e != 0) = true := by simp [hc]
  generalize checkN e = c at *
  unfold evV evO at *
  obtain ⟨k, cyc, cnt, a, b, v⟩ := e
  simp only at *
  have HB := Lib.hid bl
  clear hL hc
  go_enter Tryd.func18, Tryd.ntmps18
  go_wp2_with fail
  rw [← hw1]
  clear hw1
  go_wp2_with fail
  refine H.out.mono ?_
  rintro r w2 ⟨rfl, h2⟩
  have HB2 := Lib.hid (HB.out.trans (h2.mono HB.out.size))
  clear h2 bl
  go_wp2
  go_ret2
  exact ⟨rfl, HB2.out⟩

set_option maxRecDepth 100000 in
set_option maxHeartbeats 4000000 in
theorem text_walk (n cyc cnt a b v : Nat) (hA hB hV : Bool) (S1 S2 S3 FA FB FV : ByteArray) (w : World) (hL : EvL w)
    (H0 : Hid (∀ w', EvL w' → Calls Tryd.prog 10 #[evV ⟨n, cyc, cnt, a, b, v⟩] w' fun r w'' => r = .returned (.int .i64 0) ∧ Below w'.heap.size w' w''))
    (HF : Hid (∀ w', EvL w' → Calls Tryd.prog 12 #[.int .i64 n] w' fun r w'' => r = .returned (.tuple #[.bool hA, .bool hB, .bool hV]) ∧ ∃ q, w'' = w'.drewN q))
    (H1 : Hid (∀ w', EvL w' → Calls Tryd.prog 27 #[.int .u64 cnt, .int .i64 10] w' fun r w'' => r = .returned (.string S1) ∧ Below w'.heap.size w' w''))
    (H2 : Hid (∀ w', EvL w' → Calls Tryd.prog 27 #[.int .u64 cyc, .int .i64 10] w' fun r w'' => r = .returned (.string S2) ∧ Below w'.heap.size w' w''))
    (H3 : Hid (∀ w', EvL w' → Calls Tryd.prog 15 #[.int .i64 n] w' fun r w'' => r = .returned (.string S3) ∧ Below w'.heap.size w' w''))
    (G1 : Hid (∀ w', EvL w' → Calls Tryd.prog 28 #[.bool hA, .int .u32 a] w' fun r w'' => r = .returned (.string FA) ∧ Below w'.heap.size w' w''))
    (G2 : Hid (∀ w', EvL w' → Calls Tryd.prog 28 #[.bool hB, .int .u32 b] w' fun r w'' => r = .returned (.string FB) ∧ Below w'.heap.size w' w''))
    (G3 : Hid (∀ w', EvL w' → Calls Tryd.prog 28 #[.bool hV, .int .u32 v] w' fun r w'' => r = .returned (.string FV) ∧ Below w'.heap.size w' w''))
    (T1 T2 T3 T4 T5 T6 T7 : ByteArray) (E1 : Hid (S1 ++ ⟨#[32]⟩ = T1)) (E2 : Hid (T1 ++ S2 = T2)) (E3 : Hid (T2 ++ ⟨#[32]⟩ = T3)) (E4 : Hid (T3 ++ S3 = T4)) (E5 : Hid (T4 ++ FA = T5)) (E6 : Hid (T5 ++ FB = T6)) (E7 : Hid (T6 ++ FV = T7))
    (Z1 : Hid (¬ 9223372036854775807 < S1.size + 1)) (Z2 : Hid (¬ 9223372036854775807 < T1.size + S2.size)) (Z3 : Hid (¬ 9223372036854775807 < T2.size + 1)) (Z4 : Hid (¬ 9223372036854775807 < T3.size + S3.size))
    (Z5 : Hid (¬ 9223372036854775807 < T4.size + FA.size)) (Z6 : Hid (¬ 9223372036854775807 < T5.size + FB.size)) (Z7 : Hid (¬ 9223372036854775807 < T6.size + FV.size)) :
    Calls Tryd.prog 18 #[evV ⟨n, cyc, cnt, a, b, v⟩] w fun r w' => r = .returned (.tuple #[.string T7, .int .i64 0]) ∧ Below w.heap.size w w' := by
  obtain ⟨w1, hw1⟩ : ∃ w1, w1 = w.alloc (evO ⟨n, cyc, cnt, a, b, v⟩) := ⟨_, rfl⟩
  obtain ⟨k0, k1, k2, k3, k4, k5, bl⟩ := evO_at hw1
  have hL1 := hL.below bl
  have HL1 := Lib.hid hL1
  have HB := Lib.hid bl
  have H0' := Lib.hid (H0.out w1 hL1)
  generalize hBn : w.heap.size = B at *
  unfold evV evO at *
  simp only at *
  clear hL hL1 H0
  go_enter Tryd.func18, Tryd.ntmps18
  go_wp2_with fail
  rw [← hw1]
  clear hw1
  go_wp2_with fail
  refine H0'.out.mono ?_
  rintro r w2 ⟨rfl, h2⟩
  have k0 := cell_kept h2 k0
  have K1 := Lib.hid (cell_kept h2 k1)
  have K2 := Lib.hid (cell_kept h2 k2)
  have K3 := Lib.hid (cell_kept h2 k3)
  have K4 := Lib.hid (cell_kept h2 k4)
  have K5 := Lib.hid (cell_kept h2 k5)
  have HL2 := Lib.hid (HL1.out.below h2)
  have HB2 := Lib.hid (HB.out.trans (h2.mono (by have := HB.out.size; omega)))
  clear k1 k2 k3 k4 k5 h2 bl H0'
  go_wp2_with fail
  refine (HF.out w2 HL2.out).mono ?_
  rintro r w3 ⟨rfl, q, hw3⟩
  have hb3 : Below w2.heap.size w2 w3 := by rw [hw3]; exact below_drewN (Below.refl _ _) q
  obtain ⟨w0, hw0⟩ : ∃ w0, w0 = w3 := ⟨_, rfl⟩
  rw [← hw0]
  rw [← hw0] at hb3
  have K0 := Lib.hid (cell_kept hb3 k0)
  have K1 := Lib.hid (cell_kept hb3 K1.out)
  have K2 := Lib.hid (cell_kept hb3 K2.out)
  have K3 := Lib.hid (cell_kept hb3 K3.out)
  have K4 := Lib.hid (cell_kept hb3 K4.out)
  have K5 := Lib.hid (cell_kept hb3 K5.out)
  have HL := Lib.hid (HL2.out.below hb3)
  have HB3 := Lib.hid (HB2.out.trans (hb3.mono (by have := HB2.out.size; omega)))
  clear k0 hw3 hw0 hb3 HL1 HL2 HB HB2 HF
  go_wp2_with fail
  refine wp_region_rel [.is (.pointer (some ⟨B, 2, none⟩)), .is (.int .u64 (cnt : Nat)), .is (.string S1), .is (.string T1), .is (.pointer (some ⟨B, 1, none⟩)), .is (.int .u64 (cyc : Nat)), .is (.string S2), .is (.string T2), .is (.string T3), .is (.pointer (some ⟨B, 0, none⟩)), .is (.int .i64 (n : Int)), .is (.string S3), .is (.string T4), .is (.string T4)]
    (fun w' => Below w0.heap.size w0 w') [(0, 21), (1, 22), (2, 23), (3, 24), (4, 25), (5, 26), (6, 27), (7, 28), (8, 29), (9, 30), (10, 31), (11, 32), (12, 33), (13, 8)] 14 (by kernel_rfl) (by kernel_rfl) (by kernel_rfl) (by kernel_rfl) ?hC ?hs ?hf
  case hC => exact below_drew (Below.refl _ _)
  case hs =>
    refine stepsOk_succ ?s13 (stepsOk_succ ?s12 (stepsOk_succ ?s11 (stepsOk_succ ?s10 (stepsOk_succ ?s9 (stepsOk_succ ?s8 (stepsOk_succ ?s7 (stepsOk_succ ?s6 (stepsOk_succ ?s5 (stepsOk_succ ?s4 (stepsOk_succ ?s3 (stepsOk_succ ?s2 (stepsOk_succ ?s1 (stepsOk_succ ?s0 (stepsOk_zero))))))))))))))
    case s0 =>
      refine stepOk0 rfl (by kernel_rfl) ?_
      rintro w' hC
      intro K hK
      go_simp
      exact hK _ _ rfl ⟨rfl, hC, Below.refl _ _⟩
    case s1 =>
      refine stepOk1 0 21 rfl (by kernel_rfl) ?_
      rintro w' hC v1 rfl
      intro K hK
      have k := cell_kept hC K2.out
      go_simp
      exact hK _ _ rfl ⟨rfl, hC, Below.refl _ _⟩
    case s2 =>
      refine stepOk1 1 22 rfl (by kernel_rfl) ?_
      rintro w' hC v1 rfl
      intro K hK
      go_simp
      refine (H1.out w' (HL.out.below hC)).mono ?_
      rintro e w2 ⟨rfl, h1⟩
      exact hK _ _ rfl ⟨rfl, hC.trans (h1.mono hC.size), h1⟩
    case s3 =>
      refine stepOk1 2 23 rfl (by kernel_rfl) ?_
      rintro w' hC v1 rfl
      intro K hK
      have z := Z1.out
      go_simp
      exact hK _ _ rfl ⟨congrArg Value.string E1.out, hC, Below.refl _ _⟩
    case s4 =>
      refine stepOk0 rfl (by kernel_rfl) ?_
      rintro w' hC
      intro K hK
      go_simp
      exact hK _ _ rfl ⟨rfl, hC, Below.refl _ _⟩
    case s5 =>
      refine stepOk1 4 25 rfl (by kernel_rfl) ?_
      rintro w' hC v1 rfl
      intro K hK
      have k := cell_kept hC K1.out
      go_simp
      exact hK _ _ rfl ⟨rfl, hC, Below.refl _ _⟩
    case s6 =>
      refine stepOk1 5 26 rfl (by kernel_rfl) ?_
      rintro w' hC v1 rfl
      intro K hK
      go_simp
      refine (H2.out w' (HL.out.below hC)).mono ?_
      rintro e w2 ⟨rfl, h1⟩
      exact hK _ _ rfl ⟨rfl, hC.trans (h1.mono hC.size), h1⟩
    case s7 =>
      refine stepOk2 3 24 6 27 rfl (by kernel_rfl) ?_
      rintro w' hC v1 v2 rfl rfl
      intro K hK
      have z := Z2.out
      go_simp
      exact hK _ _ rfl ⟨congrArg Value.string E2.out, hC, Below.refl _ _⟩
    case s8 =>
      refine stepOk1 7 28 rfl (by kernel_rfl) ?_
      rintro w' hC v1 rfl
      intro K hK
      have z := Z3.out
      go_simp
      exact hK _ _ rfl ⟨congrArg Value.string E3.out, hC, Below.refl _ _⟩
    case s9 =>
      refine stepOk0 rfl (by kernel_rfl) ?_
      rintro w' hC
      intro K hK
      go_simp
      exact hK _ _ rfl ⟨rfl, hC, Below.refl _ _⟩
    case s10 =>
      refine stepOk1 9 30 rfl (by kernel_rfl) ?_
      rintro w' hC v1 rfl
      intro K hK
      have k := cell_kept hC K0.out
      go_simp
      exact hK _ _ rfl ⟨rfl, hC, Below.refl _ _⟩
    case s11 =>
      refine stepOk1 10 31 rfl (by kernel_rfl) ?_
      rintro w' hC v1 rfl
      intro K hK
      go_simp
      refine (H3.out w' (HL.out.below hC)).mono ?_
      rintro e w2 ⟨rfl, h1⟩
      exact hK _ _ rfl ⟨rfl, hC.trans (h1.mono hC.size), h1⟩
    case s12 =>
      refine stepOk2 8 29 11 32 rfl (by kernel_rfl) ?_
      rintro w' hC v1 v2 rfl rfl
      intro K hK
      have z := Z4.out
      go_simp
      exact hK _ _ rfl ⟨congrArg Value.string E4.out, hC, Below.refl _ _⟩
    case s13 =>
      refine stepOk1 12 33 rfl (by kernel_rfl) ?_
      rintro w' hC v1 rfl
      intro K hK
      go_simp
      exact hK _ _ rfl ⟨rfl, hC, Below.refl _ _⟩
  case hf =>
    intro w' hC x hx
    have e0 : x 21 = (.pointer (some ⟨B, 2, none⟩)) := hx (0, 21) (by simp)
    have e1 : x 22 = (.int .u64 (cnt : Nat)) := hx (1, 22) (by simp)
    have e2 : x 23 = (.string S1) := hx (2, 23) (by simp)
    have e3 : x 24 = (.string T1) := hx (3, 24) (by simp)
    have e4 : x 25 = (.pointer (some ⟨B, 1, none⟩)) := hx (4, 25) (by simp)
    have e5 : x 26 = (.int .u64 (cyc : Nat)) := hx (5, 26) (by simp)
    have e6 : x 27 = (.string S2) := hx (6, 27) (by simp)
    have e7 : x 28 = (.string T2) := hx (7, 28) (by simp)
    have e8 : x 29 = (.string T3) := hx (8, 29) (by simp)
    have e9 : x 30 = (.pointer (some ⟨B, 0, none⟩)) := hx (9, 30) (by simp)
    have e10 : x 31 = (.int .i64 (n : Int)) := hx (10, 31) (by simp)
    have e11 : x 32 = (.string S3) := hx (11, 32) (by simp)
    have e12 : x 33 = (.string T4) := hx (12, 33) (by simp)
    have e13 : x 8 = (.string T4) := hx (13, 8) (by simp)
    simp only [putAll, List.foldl_cons, List.foldl_nil, e0, e1, e2, e3, e4, e5, e6, e7, e8, e9, e10, e11, e12, e13, Act.put, List.setIfInBounds_toArray, List.set_cons_succ, List.set_cons_zero]
    clear hx e0 e1 e2 e3 e4 e5 e6 e7 e8 e9 e10 e11 e12 e13
    have HB6 := Lib.hid (HB3.out.trans (hC.mono (by have := HB3.out.size; omega)))
    obtain ⟨w6, hw6⟩ : ∃ w6, w6 = w' := ⟨_, rfl⟩
    rw [← hw6]
    rw [← hw6] at HB6 hC
    have K3' := Lib.hid (cell_kept hC K3.out)
    have K4' := Lib.hid (cell_kept hC K4.out)
    have K5' := Lib.hid (cell_kept hC K5.out)
    have HL6 := Lib.hid (HL.out.below hC)
    clear hw6 hC K0 K1 K2 K3 K4 K5 HL HB3 H1 H2 H3 Z1 Z2 Z3 Z4 E1 E2 E3 E4
    go_wp2_with fail
    refine wp_region_rel_end [.is (.string T4), .is (.bool hA), .is (.pointer (some ⟨B, 3, none⟩)), .is (.int .u32 (a : Nat)), .is (.string FA), .is (.string T5), .is (.bool hB), .is (.pointer (some ⟨B, 4, none⟩)), .is (.int .u32 (b : Nat)), .is (.string FB), .is (.string T6), .is (.bool hV), .is (.pointer (some ⟨B, 5, none⟩)), .is (.int .u32 (v : Nat)), .is (.string FV), .is (.string T7), .is (.string T7), .is (.int .i64 0)]
      (fun w' => Below w6.heap.size w6 w') [(0, 34), (1, 35), (2, 36), (3, 37), (4, 38), (5, 39), (6, 40), (7, 41), (8, 42), (9, 43), (10, 44), (11, 45), (12, 46), (13, 47), (14, 48), (15, 49), (16, 2), (17, 3)] 18 (by kernel_rfl) (by kernel_rfl) (by kernel_rfl) (by kernel_rfl) ?hC ?hs ?hf
    case hC => exact below_drew (Below.refl _ _)
    case hs =>
      refine stepsOk_succ ?s17 (stepsOk_succ ?s16 (stepsOk_succ ?s15 (stepsOk_succ ?s14 (stepsOk_succ ?s13 (stepsOk_succ ?s12 (stepsOk_succ ?s11 (stepsOk_succ ?s10 (stepsOk_succ ?s9 (stepsOk_succ ?s8 (stepsOk_succ ?s7 (stepsOk_succ ?s6 (stepsOk_succ ?s5 (stepsOk_succ ?s4 (stepsOk_succ ?s3 (stepsOk_succ ?s2 (stepsOk_succ ?s1 (stepsOk_succ ?s0 (stepsOk_zero))))))))))))))))))
      case s0 =>
        refine stepOk0 rfl (by kernel_rfl) ?_
        rintro w' hC
        intro K hK
        go_simp
        exact hK _ _ rfl ⟨rfl, hC, Below.refl _ _⟩
      case s1 =>
        refine stepOk0 rfl (by kernel_rfl) ?_
        rintro w' hC
        intro K hK
        go_simp
        exact hK _ _ rfl ⟨rfl, hC, Below.refl _ _⟩
      case s2 =>
        refine stepOk0 rfl (by kernel_rfl) ?_
        rintro w' hC
        intro K hK
        go_simp
        exact hK _ _ rfl ⟨rfl, hC, Below.refl _ _⟩
      case s3 =>
        refine stepOk1 2 36 rfl (by kernel_rfl) ?_
        rintro w' hC v1 rfl
        intro K hK
        have k := cell_kept hC K3'.out
        go_simp
        exact hK _ _ rfl ⟨rfl, hC, Below.refl _ _⟩
      case s4 =>
        refine stepOk2 1 35 3 37 rfl (by kernel_rfl) ?_
        rintro w' hC v1 v2 rfl rfl
        intro K hK
        go_simp
        refine (G1.out w' (HL6.out.below hC)).mono ?_
        rintro e w2 ⟨rfl, h1⟩
        exact hK _ _ rfl ⟨rfl, hC.trans (h1.mono hC.size), h1⟩
      case s5 =>
        refine stepOk2 0 34 4 38 rfl (by kernel_rfl) ?_
        rintro w' hC v1 v2 rfl rfl
        intro K hK
        have z := Z5.out
        go_simp
        exact hK _ _ rfl ⟨congrArg Value.string E5.out, hC, Below.refl _ _⟩
      case s6 =>
        refine stepOk0 rfl (by kernel_rfl) ?_
        rintro w' hC
        intro K hK
        go_simp
        exact hK _ _ rfl ⟨rfl, hC, Below.refl _ _⟩
      case s7 =>
        refine stepOk0 rfl (by kernel_rfl) ?_
        rintro w' hC
        intro K hK
        go_simp
        exact hK _ _ rfl ⟨rfl, hC, Below.refl _ _⟩
      case s8 =>
        refine stepOk1 7 41 rfl (by kernel_rfl) ?_
        rintro w' hC v1 rfl
        intro K hK
        have k := cell_kept hC K4'.out
        go_simp
        exact hK _ _ rfl ⟨rfl, hC, Below.refl _ _⟩
      case s9 =>
        refine stepOk2 6 40 8 42 rfl (by kernel_rfl) ?_
        rintro w' hC v1 v2 rfl rfl
        intro K hK
        go_simp
        refine (G2.out w' (HL6.out.below hC)).mono ?_
        rintro e w2 ⟨rfl, h1⟩
        exact hK _ _ rfl ⟨rfl, hC.trans (h1.mono hC.size), h1⟩
      case s10 =>
        refine stepOk2 5 39 9 43 rfl (by kernel_rfl) ?_
        rintro w' hC v1 v2 rfl rfl
        intro K hK
        have z := Z6.out
        go_simp
        exact hK _ _ rfl ⟨congrArg Value.string E6.out, hC, Below.refl _ _⟩
      case s11 =>
        refine stepOk0 rfl (by kernel_rfl) ?_
        rintro w' hC
        intro K hK
        go_simp
        exact hK _ _ rfl ⟨rfl, hC, Below.refl _ _⟩
      case s12 =>
        refine stepOk0 rfl (by kernel_rfl) ?_
        rintro w' hC
        intro K hK
        go_simp
        exact hK _ _ rfl ⟨rfl, hC, Below.refl _ _⟩
      case s13 =>
        refine stepOk1 12 46 rfl (by kernel_rfl) ?_
        rintro w' hC v1 rfl
        intro K hK
        have k := cell_kept hC K5'.out
        go_simp
        exact hK _ _ rfl ⟨rfl, hC, Below.refl _ _⟩
      case s14 =>
        refine stepOk2 11 45 13 47 rfl (by kernel_rfl) ?_
        rintro w' hC v1 v2 rfl rfl
        intro K hK
        go_simp
        refine (G3.out w' (HL6.out.below hC)).mono ?_
        rintro e w2 ⟨rfl, h1⟩
        exact hK _ _ rfl ⟨rfl, hC.trans (h1.mono hC.size), h1⟩
      case s15 =>
        refine stepOk2 10 44 14 48 rfl (by kernel_rfl) ?_
        rintro w' hC v1 v2 rfl rfl
        intro K hK
        have z := Z7.out
        go_simp
        exact hK _ _ rfl ⟨congrArg Value.string E7.out, hC, Below.refl _ _⟩
      case s16 =>
        refine stepOk1 15 49 rfl (by kernel_rfl) ?_
        rintro w' hC v1 rfl
        intro K hK
        go_simp
        exact hK _ _ rfl ⟨rfl, hC, Below.refl _ _⟩
      case s17 =>
        refine stepOk0 rfl (by kernel_rfl) ?_
        rintro w' hC
        intro K hK
        go_simp
        exact hK _ _ rfl ⟨rfl, hC, Below.refl _ _⟩
    case hf =>
      intro w' hC t hx
      have h16 : t.getD 2 undef = .string T7 := hx (16, 2) (by simp)
      have h17 : t.getD 3 undef = .int .i64 0 := hx (17, 3) (by simp)
      have H16 := Lib.hid h16
      have H17 := Lib.hid h17
      clear h16 h17 hx
      go_wp2_with fail
      go_ret2
      exact ⟨by rw [H16.out, H17.out], HB6.out.trans (hC.mono (by have := HB6.out.size; omega))⟩

theorem name_known (n : Nat) (n1 : 1 ≤ n) (n2 : n ≤ 24) (w : World) (hL : EvL w) :
    Calls Tryd.prog 15 #[.int .i64 n] w fun e w' => e = .returned (.string (nameB n)) ∧ Below w.heap.size w w' := by
  refine (name_any n w hL).mono fun e w' h => ?_
  rw [if_pos (by simp [knownB]; omega)] at h
  exact ⟨h.1, h.2 ▸ Below.refl _ _⟩

theorem text_ok (e : Ev) (f : Fine e) (hc : checkN e = 0) (w : World) (hL : EvL w) :
    Calls Tryd.prog 18 #[evV e] w fun r w' => r = .returned (.tuple #[.string (bytesOf (textL e)), .int .i64 0]) ∧ Below w.heap.size w w' := by
  obtain ⟨k, cyc, cnt, a, b, v⟩ := e
  have f1 := f.k1
  have f2 := f.k2
  obtain ⟨n, rfl⟩ : ∃ n : Nat, k = n := ⟨k.toNat, by simp only at f1; omega⟩
  simp only at f1 f2
  have hb : ∀ (h : Bool) m, m < 4294967296 → (optT h m).length ≤ 21 := by
    intro h m hm
    unfold optT
    cases h
    · simp
    · have := dec_len m (by omega); simp; omega
  have l1 := dec_len _ f.cnt
  have l2 := dec_len _ f.cyc
  have l3 := names_short ⟨n, by omega⟩
  have l4 := hb (hasA n) _ f.a
  have l5 := hb (hasB n) _ f.b
  have l6 := hb (hasV n) _ f.v
  simp only at l1 l2 l3 l4 l5 l6
  have key := text_walk n cyc cnt a b v (hasA n) (hasB n) (hasV n) (bytesOf (Lib.decDigits cnt)) (bytesOf (Lib.decDigits cyc)) (nameB n) (bytesOf (optT (hasA n) a)) (bytesOf (optT (hasB n) b)) (bytesOf (optT (hasV n) v)) w hL
    (fun w' h' => by rw [← hc]; exact check_any _ w' h') (fun w' h' => fields_any n w' h') (fun w' h' => fmt_any cnt f.cnt w' h') (fun w' h' => fmt_any cyc f.cyc w' h') (fun w' h' => name_known n (by omega) (by omega) w' h')
    (fun w' h' => field_any _ _ f.a w' h') (fun w' h' => field_any _ _ f.b w' h') (fun w' h' => field_any _ _ f.v w' h')
    _ _ _ _ _ _ _ (show _ ++ bytesOf [32] = _ from bytesOf_app _ _) (bytesOf_app _ _) (show _ ++ bytesOf [32] = _ from bytesOf_app _ _) (show _ ++ bytesOf (nameL n) = _ from bytesOf_app _ _) (bytesOf_app _ _) (bytesOf_app _ _) (bytesOf_app _ _)
    (by show ¬ _; simp only [bytesOf_size, List.length_append, List.length_singleton]; omega) (by show ¬ _; simp only [bytesOf_size, List.length_append, List.length_singleton]; omega) (by show ¬ _; simp only [bytesOf_size, List.length_append, List.length_singleton]; omega) (by show ¬ _; simp only [nameB, bytesOf_size, List.length_append, List.length_singleton]; omega)
    (by show ¬ _; simp only [bytesOf_size, List.length_append, List.length_singleton]; omega) (by show ¬ _; simp only [bytesOf_size, List.length_append, List.length_singleton]; omega) (by show ¬ _; simp only [bytesOf_size, List.length_append, List.length_singleton]; omega)
  rw [textL_eq]
  simp only [Int.toNat_natCast]
  simpa [List.append_assoc] using key

end Go.Proofs.YtonmkmbllaahgaaDoor
