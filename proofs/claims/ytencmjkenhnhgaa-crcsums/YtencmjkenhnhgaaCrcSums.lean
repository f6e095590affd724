/-
  CrcSums is true for every input: any bytes have the sum that the document says, and hold just if their last four are that of the others. No condition.
-/
import Derived.Test.YtencmjkenhnhgaaCrcRel
import Derived.ProofKit
import Derived.OpenShut
import Derived.ShutString
import Derived.HandedShaped
namespace Go.Proofs.Ytencmjkenhnhgaa.crcSums
open Go.ChangeShapes Go.WideShapes Go.ChangeAt Go.RowKit
open Go.ChangeMaps (open_string shut_string)
set_option linter.unusedVariables false

set_option maxRecDepth 100000 in
set_option maxHeartbeats 1000000 in
theorem walk_long (s : ByteArray) (h : s.size ≤ maxLen) (hl : 2000 < s.size) (w : World) :
    Calls Try.prog 3 #[.string s] w fun e w' => e = .returned (.bool true) ∧ Below w.heap.size w w' := by
  have hd : decide (2000 < (s.size : Int)) = true := by simp; omega
  go_enter Try.func3, Try.ntmps3
  go_wp2_with fail
  refine (awake3_any _).mono ?_
  rintro e w1 ⟨rfl, b1⟩
  go_wp2_with fail
  refine (awake3_any _).mono ?_
  rintro e w2 ⟨rfl, b2⟩
  go_wp2
  go_ret
  exact ⟨rfl, b1.trans (b2.mono b1.size)⟩

set_option maxRecDepth 100000 in
set_option maxHeartbeats 2000000 in
theorem walk_few (s : ByteArray) (hl : s.size < 4) (w : World) :
    Calls Try.prog 3 #[.string s] w fun e w' => e = .returned (.bool true) ∧ Below w.heap.size w w' := by
  have hd : decide (2000 < (s.size : Int)) = false := by simp; omega
  have hd2 : decide (4 ≤ (s.size : Int)) = false := by simp; omega
  have HS := Lib.hid (show s.size ≤ maxLen from by unfold maxLen; omega)
  have HR := Lib.hid (rsum_any s HS.out)
  have hh : holdsB s.data.toList = false := by
    rw [holdsB, show s.data.toList.length = s.size from by simp, decide_eq_false (by omega)]; rfl
  have hq : ∀ (w' : World) (b : Nat), TabK w' b 256 → Calls Try.prog 14 #[.pointer (some ⟨b, 0, none⟩), .string s] w' fun e w2 => e = .returned (.bool false) ∧ Below w'.heap.size w' w2 := by
    intro w' b ht
    have := holds_any w' b ht s HS.out
    rw [hh] at this
    exact this
  have HH := Lib.hid hq
  have HO := Lib.hid (fun (w' : World) (b g : Nat) (ht : TabK w' b 256) (hg : w'.heap[g]? = some (.cells #[.string s] 9 (0, 0))) => (sum_row w' b g ht s hg HS.out w' w'.heap.size (Below.refl _ _)).mono (fun e w2 h => (⟨h.1, h.2.1⟩ : _ ∧ _)))
  generalize sumL s.data.toList = S at *
  clear hh hq
  go_enter Try.func3, Try.ntmps3
  go_wp2_with fail
  refine (awake3_any _).mono ?_
  rintro e w1 ⟨rfl, b1⟩
  have B1 := Lib.hid b1
  clear b1
  go_wp2_with fail
  refine (make_any _).mono ?_
  rintro e w2 ⟨rfl, t2, b2⟩
  have T2 := Lib.hid t2
  have B2 := Lib.hid (B1.out.trans (b2.mono B1.out.size))
  clear t2 b2
  generalize w1.heap.size = b at *
  go_wp2_with fail
  refine wp_region_rel_end [.is (.pointer (some ⟨b, 0, none⟩)), .is (.string s), .row #[.string s] 9 1, .is (.int .u32 (S : Nat)), .is (.string s), .is (.int .u32 (S : Nat)), .is (.bool true), .is (.bool true), .is (.pointer (some ⟨b, 0, none⟩)), .is (.string s), .is (.bool false), .is (.int .i64 ((s.size : Int) - 4)), .is (.bool false), .is (.bool false), .is undef, .is undef, .is undef, .is undef, .is undef, .is undef, .is undef, .is undef, .is undef, .is undef, .is undef, .is (.bool false), .is (.bool true), .is (.bool true), .is (.bool true)]
    (CT w b) [(0, 17), (1, 18), (2, 19), (3, 20), (4, 21), (5, 22), (6, 23), (7, 24), (8, 25), (9, 26), (10, 27), (11, 28), (12, 29), (13, 30), (14, 31), (15, 32), (16, 33), (17, 34), (18, 35), (19, 36), (20, 37), (21, 38), (22, 39), (23, 40), (24, 41), (25, 42), (26, 43), (27, 44), (28, 2)] 29 (by kernel_rfl) (by kernel_rfl) (by kernel_rfl) (by kernel_rfl) ?hC ?hs ?hf
  case hC => exact ⟨below_drew B2.out, T2.out⟩
  case hs =>
    refine stepsOk_succ ?s28 (stepsOk_succ ?s27 (stepsOk_succ ?s26 (stepsOk_succ ?s25 (stepsOk_succ ?s24 (stepsOk_succ ?s23 (stepsOk_succ ?s22 (stepsOk_succ ?s21 (stepsOk_succ ?s20 (stepsOk_succ ?s19 (stepsOk_succ ?s18 (stepsOk_succ ?s17 (stepsOk_succ ?s16 (stepsOk_succ ?s15 (stepsOk_succ ?s14 (stepsOk_succ ?s13 (stepsOk_succ ?s12 (stepsOk_succ ?s11 (stepsOk_succ ?s10 (stepsOk_succ ?s9 (stepsOk_succ ?s8 (stepsOk_succ ?s7 (stepsOk_succ ?s6 (stepsOk_succ ?s5 (stepsOk_succ ?s4 (stepsOk_succ ?s3 (stepsOk_succ ?s2 (stepsOk_succ ?s1 (stepsOk_succ ?s0 (stepsOk_zero)))))))))))))))))))))))))))))
    case s0 =>
      refine stepOk0 rfl (by kernel_rfl) ?_
      rintro w' hC
      intro K hK
      go_simp
      exact hK _ _ rfl ⟨rfl, hC, Below.refl _ _⟩
    case s1 =>
      refine stepOk0 rfl (by kernel_rfl) ?_
      rintro w' hC
      intro K hK
      go_simp
      exact hK _ _ rfl ⟨rfl, hC, Below.refl _ _⟩
    case s2 =>
      refine stepOk1 1 18 rfl (by kernel_rfl) ?_
      rintro w' hC v1 rfl
      intro K hK
      go_simp
      exact hK _ _ rfl ⟨⟨_, rfl, heap_alloc_new w' _⟩, hC.step (below_new _ _), below_new _ _⟩
    case s3 =>
      refine stepOk2 0 17 2 19 rfl (by kernel_rfl) ?_
      rintro w' hC v1 v2 rfl ⟨g1, rfl, hg1⟩
      intro K hK
      go_simp
      refine (HO.out w' _ _ hC.2 hg1).mono ?_
      rintro e w2 ⟨rfl, h1⟩
      exact hK _ _ rfl ⟨rfl, hC.step h1, h1⟩
    case s4 =>
      refine stepOk0 rfl (by kernel_rfl) ?_
      rintro w' hC
      intro K hK
      go_simp
      exact hK _ _ rfl ⟨rfl, hC, Below.refl _ _⟩
    case s5 =>
      refine stepOk1 4 21 rfl (by kernel_rfl) ?_
      rintro w' hC v1 rfl
      intro K hK
      go_simp
      refine (HR.out _).mono ?_
      rintro e w2 ⟨rfl, rfl⟩
      exact hK _ _ rfl ⟨rfl, hC, Below.refl _ _⟩
    case s6 =>
      refine stepOk2 3 20 5 22 rfl (by kernel_rfl) ?_
      rintro w' hC v1 v2 rfl rfl
      intro K hK
      go_simp
      exact hK _ _ rfl ⟨rfl, hC, Below.refl _ _⟩
    case s7 =>
      refine stepOk1 6 23 rfl (by kernel_rfl) ?_
      rintro w' hC v1 rfl
      intro K hK
      go_simp
      exact hK _ _ rfl ⟨rfl, hC, Below.refl _ _⟩
    case s8 =>
      refine stepOk1 7 24 rfl (by kernel_rfl) ?_
      rintro w' hC v1 rfl
      intro K hK
      go_simp
      exact hK _ _ rfl ⟨rfl, hC, Below.refl _ _⟩
    case s9 =>
      refine stepOk1 7 24 rfl (by kernel_rfl) ?_
      rintro w' hC v1 rfl
      intro K hK
      go_simp
      exact hK _ _ rfl ⟨rfl, hC, Below.refl _ _⟩
    case s10 =>
      refine stepOk3 7 24 8 25 9 26 rfl (by kernel_rfl) ?_
      rintro w' hC v1 v2 v3 rfl rfl rfl
      intro K hK
      go_simp
      refine (HH.out w' _ hC.2).mono ?_
      rintro e w2 ⟨rfl, h1⟩
      exact hK _ _ rfl ⟨rfl, hC.step h1, h1⟩
    case s11 =>
      refine stepOk1 7 24 rfl (by kernel_rfl) ?_
      rintro w' hC v1 rfl
      intro K hK
      go_simp
      exact hK _ _ rfl ⟨rfl, hC, Below.refl _ _⟩
    case s12 =>
      refine stepOk2 7 24 11 28 rfl (by kernel_rfl) ?_
      rintro w' hC v1 v2 rfl rfl
      intro K hK
      go_simp
      exact hK _ _ rfl ⟨rfl, hC, Below.refl _ _⟩
    case s13 =>
      refine stepOk2 7 24 12 29 rfl (by kernel_rfl) ?_
      rintro w' hC v1 v2 rfl rfl
      intro K hK
      go_simp
      exact hK _ _ rfl ⟨rfl, hC, Below.refl _ _⟩
    case s14 =>
      refine stepOk1 13 30 rfl (by kernel_rfl) ?_
      rintro w' hC v1 rfl
      intro K hK
      go_simp
      exact hK _ _ rfl ⟨rfl, hC, Below.refl _ _⟩
    case s15 =>
      refine stepOk1 13 30 rfl (by kernel_rfl) ?_
      rintro w' hC v1 rfl
      intro K hK
      go_simp
      exact hK _ _ rfl ⟨rfl, hC, Below.refl _ _⟩
    case s16 =>
      refine stepOk2 13 30 15 32 rfl (by kernel_rfl) ?_
      rintro w' hC v1 v2 rfl rfl
      intro K hK
      go_simp
      exact hK _ _ rfl ⟨rfl, hC, Below.refl _ _⟩
    case s17 =>
      refine stepOk3 13 30 14 31 16 33 rfl (by kernel_rfl) ?_
      rintro w' hC v1 v2 v3 rfl rfl rfl
      intro K hK
      go_simp
      exact hK _ _ rfl ⟨rfl, hC, Below.refl _ _⟩
    case s18 =>
      refine stepOk2 13 30 17 34 rfl (by kernel_rfl) ?_
      rintro w' hC v1 v2 rfl rfl
      intro K hK
      go_simp
      exact hK _ _ rfl ⟨rfl, hC, Below.refl _ _⟩
    case s19 =>
      refine stepOk2 13 30 18 35 rfl (by kernel_rfl) ?_
      rintro w' hC v1 v2 rfl rfl
      intro K hK
      go_simp
      exact hK _ _ rfl ⟨rfl, hC, Below.refl _ _⟩
    case s20 =>
      refine stepOk1 13 30 rfl (by kernel_rfl) ?_
      rintro w' hC v1 rfl
      intro K hK
      go_simp
      exact hK _ _ rfl ⟨rfl, hC, Below.refl _ _⟩
    case s21 =>
      refine stepOk1 13 30 rfl (by kernel_rfl) ?_
      rintro w' hC v1 rfl
      intro K hK
      go_simp
      exact hK _ _ rfl ⟨rfl, hC, Below.refl _ _⟩
    case s22 =>
      refine stepOk2 13 30 21 38 rfl (by kernel_rfl) ?_
      rintro w' hC v1 v2 rfl rfl
      intro K hK
      go_simp
      exact hK _ _ rfl ⟨rfl, hC, Below.refl _ _⟩
    case s23 =>
      refine stepOk3 13 30 20 37 22 39 rfl (by kernel_rfl) ?_
      rintro w' hC v1 v2 v3 rfl rfl rfl
      intro K hK
      go_simp
      exact hK _ _ rfl ⟨rfl, hC, Below.refl _ _⟩
    case s24 =>
      refine stepOk3 13 30 19 36 23 40 rfl (by kernel_rfl) ?_
      rintro w' hC v1 v2 v3 rfl rfl rfl
      intro K hK
      go_simp
      exact hK _ _ rfl ⟨rfl, hC, Below.refl _ _⟩
    case s25 =>
      refine stepOk3 7 24 13 30 24 41 rfl (by kernel_rfl) ?_
      rintro w' hC v1 v2 v3 rfl rfl rfl
      intro K hK
      go_simp
      exact hK _ _ rfl ⟨rfl, hC, Below.refl _ _⟩
    case s26 =>
      refine stepOk3 7 24 10 27 25 42 rfl (by kernel_rfl) ?_
      rintro w' hC v1 v2 v3 rfl rfl rfl
      intro K hK
      go_simp
      exact hK _ _ rfl ⟨rfl, hC, Below.refl _ _⟩
    case s27 =>
      refine stepOk2 7 24 26 43 rfl (by kernel_rfl) ?_
      rintro w' hC v1 v2 rfl rfl
      intro K hK
      go_simp
      exact hK _ _ rfl ⟨rfl, hC, Below.refl _ _⟩
    case s28 =>
      refine stepOk1 27 44 rfl (by kernel_rfl) ?_
      rintro w' hC v1 rfl
      intro K hK
      go_simp
      exact hK _ _ rfl ⟨rfl, hC, Below.refl _ _⟩
  case hf =>
    intro w' hC t hx
    have h28 : t.getD 2 undef = .bool true := hx (28, 2) (by simp)
    have H28 := Lib.hid h28
    clear h28 hx
    go_wp2_with fail
    go_ret
    exact ⟨by rw [H28.out], hC.1⟩

set_option maxRecDepth 100000 in
set_option maxHeartbeats 2000000 in
theorem walk_many (s : ByteArray) (k : Nat) (hl : s.size = k + 4) (hl2 : s.size ≤ 2000) (w : World) :
    Calls Try.prog 3 #[.string s] w fun e w' => e = .returned (.bool true) ∧ Below w.heap.size w w' := by
  have hd : decide (2000 < (s.size : Int)) = false := by simp; omega
  have hsub : (s.size : Int) - 4 = (k : Int) := by omega
  have hk0 : (0 : Int) ≤ (k : Int) := by omega
  have hki : (k : Int) ≤ (s.size : Int) := by omega
  have hk : k ≤ s.size := by omega
  have hkm : k < 9223372036854775808 := by omega
  have hmax : max (k : Int) 0 = (k : Int) := by omega
  have HS := Lib.hid (show s.size ≤ maxLen from by unfold maxLen; omega)
  have HR := Lib.hid (rsum_any s HS.out)
  have hh : holdsB s.data.toList = (s.data.toList.drop k == bytesL (sumL (s.data.toList.take k))) := by
    rw [holdsB, show s.data.toList.length = s.size from by simp, decide_eq_true (by omega), Bool.true_and, show s.size - 4 = k from by omega]
  obtain ⟨A, hA⟩ : ∃ A, A = s.extract 0 k := ⟨_, rfl⟩
  obtain ⟨Z, hZ⟩ : ∃ Z, Z = s.extract k s.size := ⟨_, rfl⟩
  have hAs : A.size ≤ maxLen := by rw [hA]; simp [ByteArray.size_extract]; unfold maxLen; omega
  have HRA := Lib.hid (rsum_any A hAs)
  have HD := Lib.hid (rbytes_any (sumL A.data.toList) (sumL_lt _))
  obtain ⟨H, hH⟩ : ∃ H, H = holdsB s.data.toList := ⟨_, rfl⟩
  have HH := Lib.hid (fun (w' : World) (b : Nat) (ht : TabK w' b 256) => holds_any w' b ht s HS.out)
  rw [← hH] at HH
  obtain ⟨SA, hSA⟩ : ∃ SA, SA = sumL A.data.toList := ⟨_, rfl⟩
  rw [← hSA] at HRA HD
  obtain ⟨D, hD⟩ : ∃ D : ByteArray, D = ⟨(bytesL SA).toArray⟩ := ⟨_, rfl⟩
  rw [← hD] at HD
  have hEq : (D.toList == Z.toList) = H := by
    rw [hH, hh, hZ, drop_eq, hD, hSA, hA, take_eq, ByteArray.toList_eq]
    exact Bool.eq_iff_iff.2 ⟨fun h => by rw [beq_iff_eq] at h ⊢; exact h.symm, fun h => by rw [beq_iff_eq] at h ⊢; exact h.symm⟩
  have hA' := hA.symm
  have hZ' := hZ.symm
  have HO := Lib.hid (fun (w' : World) (b g : Nat) (ht : TabK w' b 256) (hg : w'.heap[g]? = some (.cells #[.string s] 9 (0, 0))) => (sum_row w' b g ht s hg HS.out w' w'.heap.size (Below.refl _ _)).mono (fun e w2 h => (⟨h.1, h.2.1⟩ : _ ∧ _)))
  generalize sumL s.data.toList = S at *
  have HL := Lib.hid hl
  clear hh hl hH hA hZ hAs hSA hD
  go_enter Try.func3, Try.ntmps3
  go_wp2_with fail
  refine (awake3_any _).mono ?_
  rintro e w1 ⟨rfl, b1⟩
  have B1 := Lib.hid b1
  clear b1
  go_wp2_with fail
  refine (make_any _).mono ?_
  rintro e w2 ⟨rfl, t2, b2⟩
  have T2 := Lib.hid t2
  have B2 := Lib.hid (B1.out.trans (b2.mono B1.out.size))
  clear t2 b2
  generalize w1.heap.size = b at *
  go_wp2_with fail
  refine wp_region_rel_end [.is (.pointer (some ⟨b, 0, none⟩)), .is (.string s), .row #[.string s] 9 1, .is (.int .u32 (S : Nat)), .is (.string s), .is (.int .u32 (S : Nat)), .is (.bool true), .is (.bool true), .is (.pointer (some ⟨b, 0, none⟩)), .is (.string s), .is (.bool H), .is (.int .i64 (k : Int)), .is (.bool true), .is (.bool true), .is (.string s), .is (.int .i64 (k : Int)), .is (.int .i64 (k : Int)), .is (.string A), .is (.int .u32 (SA : Nat)), .is (.string D), .is (.string s), .is (.int .i64 (k : Int)), .is (.int .i64 (k : Int)), .is (.string Z), .is (.bool H), .is (.bool H), .is (.bool true), .is (.bool true), .is (.bool true)]
    (CT w b) [(0, 17), (1, 18), (2, 19), (3, 20), (4, 21), (5, 22), (6, 23), (7, 24), (8, 25), (9, 26), (10, 27), (11, 28), (12, 29), (13, 30), (14, 31), (15, 32), (16, 33), (17, 34), (18, 35), (19, 36), (20, 37), (21, 38), (22, 39), (23, 40), (24, 41), (25, 42), (26, 43), (27, 44), (28, 2)] 29 (by kernel_rfl) (by kernel_rfl) (by kernel_rfl) (by kernel_rfl) ?hC ?hs ?hf
  case hC => exact ⟨below_drew B2.out, T2.out⟩
  case hs =>
    refine stepsOk_succ ?s28 (stepsOk_succ ?s27 (stepsOk_succ ?s26 (stepsOk_succ ?s25 (stepsOk_succ ?s24 (stepsOk_succ ?s23 (stepsOk_succ ?s22 (stepsOk_succ ?s21 (stepsOk_succ ?s20 (stepsOk_succ ?s19 (stepsOk_succ ?s18 (stepsOk_succ ?s17 (stepsOk_succ ?s16 (stepsOk_succ ?s15 (stepsOk_succ ?s14 (stepsOk_succ ?s13 (stepsOk_succ ?s12 (stepsOk_succ ?s11 (stepsOk_succ ?s10 (stepsOk_succ ?s9 (stepsOk_succ ?s8 (stepsOk_succ ?s7 (stepsOk_succ ?s6 (stepsOk_succ ?s5 (stepsOk_succ ?s4 (stepsOk_succ ?s3 (stepsOk_succ ?s2 (stepsOk_succ ?s1 (stepsOk_succ ?s0 (stepsOk_zero)))))))))))))))))))))))))))))
    case s0 =>
      refine stepOk0 rfl (by kernel_rfl) ?_
      rintro w' hC
      intro K hK
      go_simp
      exact hK _ _ rfl ⟨rfl, hC, Below.refl _ _⟩
    case s1 =>
      refine stepOk0 rfl (by kernel_rfl) ?_
      rintro w' hC
      intro K hK
      go_simp
      exact hK _ _ rfl ⟨rfl, hC, Below.refl _ _⟩
    case s2 =>
      refine stepOk1 1 18 rfl (by kernel_rfl) ?_
      rintro w' hC v1 rfl
      intro K hK
      go_simp
      exact hK _ _ rfl ⟨⟨_, rfl, heap_alloc_new w' _⟩, hC.step (below_new _ _), below_new _ _⟩
    case s3 =>
      refine stepOk2 0 17 2 19 rfl (by kernel_rfl) ?_
      rintro w' hC v1 v2 rfl ⟨g1, rfl, hg1⟩
      intro K hK
      go_simp
      refine (HO.out w' _ _ hC.2 hg1).mono ?_
      rintro e w2 ⟨rfl, h1⟩
      exact hK _ _ rfl ⟨rfl, hC.step h1, h1⟩
    case s4 =>
      refine stepOk0 rfl (by kernel_rfl) ?_
      rintro w' hC
      intro K hK
      go_simp
      exact hK _ _ rfl ⟨rfl, hC, Below.refl _ _⟩
    case s5 =>
      refine stepOk1 4 21 rfl (by kernel_rfl) ?_
      rintro w' hC v1 rfl
      intro K hK
      go_simp
      refine (HR.out _).mono ?_
      rintro e w2 ⟨rfl, rfl⟩
      exact hK _ _ rfl ⟨rfl, hC, Below.refl _ _⟩
    case s6 =>
      refine stepOk2 3 20 5 22 rfl (by kernel_rfl) ?_
      rintro w' hC v1 v2 rfl rfl
      intro K hK
      go_simp
      exact hK _ _ rfl ⟨rfl, hC, Below.refl _ _⟩
    case s7 =>
      refine stepOk1 6 23 rfl (by kernel_rfl) ?_
      rintro w' hC v1 rfl
      intro K hK
      go_simp
      exact hK _ _ rfl ⟨rfl, hC, Below.refl _ _⟩
    case s8 =>
      refine stepOk1 7 24 rfl (by kernel_rfl) ?_
      rintro w' hC v1 rfl
      intro K hK
      go_simp
      exact hK _ _ rfl ⟨rfl, hC, Below.refl _ _⟩
    case s9 =>
      refine stepOk1 7 24 rfl (by kernel_rfl) ?_
      rintro w' hC v1 rfl
      intro K hK
      go_simp
      exact hK _ _ rfl ⟨rfl, hC, Below.refl _ _⟩
    case s10 =>
      refine stepOk3 7 24 8 25 9 26 rfl (by kernel_rfl) ?_
      rintro w' hC v1 v2 v3 rfl rfl rfl
      intro K hK
      go_simp
      refine (HH.out w' _ hC.2).mono ?_
      rintro e w2 ⟨rfl, h1⟩
      exact hK _ _ rfl ⟨rfl, hC.step h1, h1⟩
    case s11 =>
      refine stepOk1 7 24 rfl (by kernel_rfl) ?_
      rintro w' hC v1 rfl
      intro K hK
      go_simp
      exact hK _ _ rfl ⟨rfl, hC, Below.refl _ _⟩
    case s12 =>
      refine stepOk2 7 24 11 28 rfl (by kernel_rfl) ?_
      rintro w' hC v1 v2 rfl rfl
      intro K hK
      go_simp
      exact hK _ _ rfl ⟨rfl, hC, Below.refl _ _⟩
    case s13 =>
      refine stepOk2 7 24 12 29 rfl (by kernel_rfl) ?_
      rintro w' hC v1 v2 rfl rfl
      intro K hK
      go_simp
      exact hK _ _ rfl ⟨rfl, hC, Below.refl _ _⟩
    case s14 =>
      refine stepOk1 13 30 rfl (by kernel_rfl) ?_
      rintro w' hC v1 rfl
      intro K hK
      go_simp
      exact hK _ _ rfl ⟨rfl, hC, Below.refl _ _⟩
    case s15 =>
      refine stepOk1 13 30 rfl (by kernel_rfl) ?_
      rintro w' hC v1 rfl
      intro K hK
      go_simp
      exact hK _ _ rfl ⟨rfl, hC, Below.refl _ _⟩
    case s16 =>
      refine stepOk2 13 30 15 32 rfl (by kernel_rfl) ?_
      rintro w' hC v1 v2 rfl rfl
      intro K hK
      go_simp
      exact hK _ _ rfl ⟨rfl, hC, Below.refl _ _⟩
    case s17 =>
      refine stepOk3 13 30 14 31 16 33 rfl (by kernel_rfl) ?_
      rintro w' hC v1 v2 v3 rfl rfl rfl
      intro K hK
      go_simp
      exact hK _ _ rfl ⟨rfl, hC, Below.refl _ _⟩
    case s18 =>
      refine stepOk2 13 30 17 34 rfl (by kernel_rfl) ?_
      rintro w' hC v1 v2 rfl rfl
      intro K hK
      go_simp
      refine (HRA.out _).mono ?_
      rintro e w2 ⟨rfl, rfl⟩
      exact hK _ _ rfl ⟨rfl, hC, Below.refl _ _⟩
    case s19 =>
      refine stepOk2 13 30 18 35 rfl (by kernel_rfl) ?_
      rintro w' hC v1 v2 rfl rfl
      intro K hK
      go_simp
      refine (HD.out w').mono ?_
      rintro e w2 ⟨rfl, h1⟩
      exact hK _ _ rfl ⟨rfl, hC.step h1, h1⟩
    case s20 =>
      refine stepOk1 13 30 rfl (by kernel_rfl) ?_
      rintro w' hC v1 rfl
      intro K hK
      go_simp
      exact hK _ _ rfl ⟨rfl, hC, Below.refl _ _⟩
    case s21 =>
      refine stepOk1 13 30 rfl (by kernel_rfl) ?_
      rintro w' hC v1 rfl
      intro K hK
      go_simp
      exact hK _ _ rfl ⟨rfl, hC, Below.refl _ _⟩
    case s22 =>
      refine stepOk2 13 30 21 38 rfl (by kernel_rfl) ?_
      rintro w' hC v1 v2 rfl rfl
      intro K hK
      go_simp
      exact hK _ _ rfl ⟨rfl, hC, Below.refl _ _⟩
    case s23 =>
      refine stepOk3 13 30 20 37 22 39 rfl (by kernel_rfl) ?_
      rintro w' hC v1 v2 v3 rfl rfl rfl
      intro K hK
      go_simp
      exact hK _ _ rfl ⟨rfl, hC, Below.refl _ _⟩
    case s24 =>
      refine stepOk3 13 30 19 36 23 40 rfl (by kernel_rfl) ?_
      rintro w' hC v1 v2 v3 rfl rfl rfl
      intro K hK
      go_simp
      exact hK _ _ rfl ⟨rfl, hC, Below.refl _ _⟩
    case s25 =>
      refine stepOk3 7 24 13 30 24 41 rfl (by kernel_rfl) ?_
      rintro w' hC v1 v2 v3 rfl rfl rfl
      intro K hK
      go_simp
      exact hK _ _ rfl ⟨rfl, hC, Below.refl _ _⟩
    case s26 =>
      refine stepOk3 7 24 10 27 25 42 rfl (by kernel_rfl) ?_
      rintro w' hC v1 v2 v3 rfl rfl rfl
      intro K hK
      go_simp
      exact hK _ _ rfl ⟨rfl, hC, Below.refl _ _⟩
    case s27 =>
      refine stepOk2 7 24 26 43 rfl (by kernel_rfl) ?_
      rintro w' hC v1 v2 rfl rfl
      intro K hK
      go_simp
      exact hK _ _ rfl ⟨rfl, hC, Below.refl _ _⟩
    case s28 =>
      refine stepOk1 27 44 rfl (by kernel_rfl) ?_
      rintro w' hC v1 rfl
      intro K hK
      go_simp
      exact hK _ _ rfl ⟨rfl, hC, Below.refl _ _⟩
  case hf =>
    intro w' hC t hx
    have h28 : t.getD 2 undef = .bool true := hx (28, 2) (by simp)
    have H28 := Lib.hid h28
    clear h28 hx
    go_wp2_with fail
    go_ret
    exact ⟨by rw [H28.out], hC.1⟩

theorem walk (a : ByteArray) (ha : a.size ≤ maxLen) (w : World) :
    Calls Try.prog 3 #[.string a] w fun e w' => e = .returned (.bool true) ∧ Below w.heap.size w w' := by
  by_cases h1 : 2000 < a.size
  · exact walk_long a ha h1 w
  · by_cases h2 : a.size < 4
    · exact walk_few a h2 w
    · exact walk_many a (a.size - 4) (by omega) (by omega) w

theorem own : ownKnob Try.prog.godebug = none := by kernel_rfl
theorem laidOut : laidOutB Try.prog = true := by kernel_rfl

set_option maxRecDepth 100000 in
theorem lifted (os : Os) (started : os.Started) (H : Type) (enc : TypeId × Value → H) :
    ReturnsInHanded {} Try.checked os 3 .any (Rows.crcSumsSpec.pre6 enc Try.prog Try.f3 Rows.crcSumsRow.domain false) (Rows.crcSumsSpec.post enc Try.prog Try.f3 false true false false) := by
  refine returnsInHanded_of_change_shaped (C := Try.checked) own started (by kernel_rfl) Try.func3
    (ChangeSpec.witness6 (enc := enc) (C := Try.checked) false ⟨#[], #[.string ByteArray.empty], []⟩ 8 (by kernel_rfl) (by kernel_rfl) (by kernel_rfl) (by kernel_rfl)) ?_
  intro W base args ds gs before hval0 hW hcnd hsz0 hsh _
  have hval : ∀ (j : Nat) t v, Try.f3.params[j]? = some t → args[j]? = some v → Value.okWide Try.prog W .any base t v := hval0
  have hsz : (DataW.weightsEach Try.prog (Try.f3.params.toList ++ Rows.crcSumsSpec.plain.varTypes Try.prog) (ds ++ gs)).all (· ≤ reachBytes) = true := hsz0
  have hW' := hW
  obtain ⟨p, q, hA0, hV, rfl, hfz, hnd⟩ := hW
  have hA : DataW.TrodAll enc Try.prog W 0 (fun _ => true) true Try.f3.params.toList args.toList ds p := hA0
  rw [Try.params3] at hA hval hsz
  obtain ⟨v0, vs0, d0, ds0, p0, q0, hargs, rfl, rfl, h0, r0⟩ := trodAll_cons hA
  obtain ⟨rfl, rfl, rfl⟩ := trodAll_nil r0
  obtain rfl : args = #[v0] := by cases args; simp_all
  obtain ⟨rfl, rfl⟩ := trodVars_none hV
  have k0 := h0
  have lt0 : ∀ x ∈ p0, x.block < W.heap.size := by obtain ⟨m, hm⟩ := k0; exact DataW.trod_lt m _ _ _ hm
  obtain ⟨a0, rfl, rfl, rfl, w0⟩ := open_string Try.underlying9 (hval 0 9 v0 rfl rfl) h0
  clear hA0 hval0
  refine (walk a0 w0 W).mono fun e W' ⟨he, bel⟩ => ?_
  subst he
  exact ⟨_, rfl, _, _, _, [], _, [], hW', trodAll_mk1 (shut_bool Try.underlying4 _), (trodAll_cons_mk (Below.trod laidOut (by kernel_rfl) (of_decide_eq_true (by kernel_rfl)) k0 bel lt0) trodAll_mk0), rfl, bel.frame _, fun h => by cases h⟩

theorem over : Rows.crcSumsRow.holds Try.pinned (OpenSpec.ofChange Rows.crcSumsSpec) :=
  OpenClaim.holds_of_wide 3 Try.f3 rfl rfl rfl rfl rfl rfl rfl ⟨rfl, rfl, rfl, rfl, rfl⟩ rfl rfl rfl rfl rfl (by kernel_rfl) Try.func3 (by kernel_rfl)
    (of_decide_eq_true (by kernel_rfl)) (by unfold Func.isWrapper; first | (rw [if_pos (by decide +kernel)]; kernel_rfl) | (rw [if_neg (by decide +kernel)]; exact ⟨rfl, rfl⟩))
    (fun os started H enc _ => lifted os started H enc)

theorem proved : Rows.CrcSumsSaid :=
  over
#print axioms proved
end Go.Proofs.Ytencmjkenhnhgaa.crcSums
