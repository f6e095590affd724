/-
  The statements' own test of answers that the document fixes (awake), over this seat's translation. Conditions: the listed variable (EvL).
-/
import Derived.Test.YtobljhgiibpmkaaDoorCoil3
import Derived.Test.YtobljhgiibpmkaaDoorCoil7
import Derived.Test.YtobljhgiibpmkaaDoorCoil10
import Derived.Test.YtobljhgiibpmkaaDoorRel
namespace Go.Proofs.YtobljhgiibpmkaaDoor
open Go.RowKit
set_option linter.unusedVariables false
set_option linter.unusedSimpArgs false

/-- A row of events that is laid. -/
theorem seen_lit {w : World} {B : Nat} {l : List Ev} (h : w.heap[B]? = some (.cells (evRow l).toArray 39 (0, 0))) (hm : l.length ≤ maxLen) : SeenE w (some ⟨B, 0, none⟩) l.length l := by
  refine ⟨hm, Nat.le_refl _, (fun h => by cases h), fun i hi => ⟨B, 0, rfl, blk_lt h, fun j hj => ?_⟩⟩
  have key : ∀ d, d < 6 → w.cell? ⟨B, 0 + j * 6 + d, none⟩ = (ev6 l[j])[d]? := by
    intro d hd
    rw [Nat.zero_add, ← evRow_at l j hj d hd]
    simp [World.cell?, h]
  exact ⟨key 0 (by omega), key 1 (by omega), key 2 (by omega), key 3 (by omega), key 4 (by omega), key 5 (by omega)⟩

def awA : Ev := ⟨22, 9, 5, 3, 0, 0⟩
def awB : Ev := ⟨4, 9, 6, 0, 0, 0⟩
theorem aw_fits : ∀ e ∈ [awA, awB], EvFits e := by
  intro e he
  simp only [List.mem_cons, List.not_mem_nil, or_false] at he
  rcases he with rfl | rfl
  · exact ⟨by decide, by decide, by decide, by decide, by decide, by decide, by decide⟩
  · exact ⟨by decide, by decide, by decide, by decide, by decide, by decide, by decide⟩
theorem aw_print : coilL [awA, awB] = ([22, 0, 0, 3, 4, 1, 1, 0], 0) := by kernel_rfl
theorem aw_read : readL 9 5 [22, 0, 0, 3, 4, 1, 1, 0] = ([awA, awB], 0) := by kernel_rfl
theorem aw_size : (addB awA awB).length = 4 := by kernel_rfl

set_option maxRecDepth 100000 in
set_option maxHeartbeats 4000000 in
theorem awake6_any (w : World) (hL : EvL w) :
    Calls Tryd.prog 9 #[] w fun r w' => r = .returned (.bool true) ∧ Below w.heap.size w w' := by
  obtain ⟨w1, e1⟩ : ∃ w1, w1 = w.alloc (.cells #[.int .i64 22, .int .u64 9, .int .u64 5, .int .u32 3, .int .u32 0, .int .u32 0, .int .i64 4, .int .u64 9, .int .u64 6, .int .u32 0, .int .u32 0, .int .u32 0] 39) := ⟨_, rfl⟩
  obtain ⟨-, n1, b1⟩ := new_size e1
  have s1 : SeenE w1 (some ⟨w.heap.size, 0, none⟩) 2 [awA, awB] := seen_lit (l := [awA, awB]) n1 (by decide)
  have hblt : w.heap.size < w1.heap.size := blk_lt n1
  have L1 := Lib.hid (hL.below b1)
  have S1 := Lib.hid s1
  have B1 := Lib.hid b1
  have HP : Hid (Calls Tryd.prog 10 #[.slice (some ⟨w.heap.size, 0, none⟩) 2 2] w1 fun r w' => r = .returned (.tuple #[.string ⟨#[22, 0, 0, 3, 4, 1, 1, 0]⟩, .int .i64 0]) ∧ Below w1.heap.size w1 w') := by
    have := print_any _ _ [awA, awB] w1 s1 (hL.below b1) aw_fits (by decide)
    rw [aw_print] at this
    exact Lib.hid this
  have HR : Hid (∀ w', EvL w' → Calls Tryd.prog 12 #[.int .u64 9, .int .u64 5, .string ⟨#[22, 0, 0, 3, 4, 1, 1, 0]⟩] w' fun r w'' => ∃ ao cap, r = .returned (.tuple #[.slice ao 2 cap, .int .i64 0]) ∧ SeenE w'' ao cap [awA, awB] ∧ Below w'.heap.size w' w'') := by
    refine Lib.hid fun w' h' => ?_
    have := read_any' 9 5 ⟨#[22, 0, 0, 3, 4, 1, 1, 0]⟩ (by decide) (by decide) (by decide) w' h'
    rw [show (⟨#[22, 0, 0, 3, 4, 1, 1, 0]⟩ : ByteArray).data.toList = [22, 0, 0, 3, 4, 1, 1, 0] from rfl, aw_read] at this
    exact this
  have HS : Hid (∀ w', EvL w' → Calls Tryd.prog 16 #[.agg #[.int .i64 22, .int .u64 9, .int .u64 5, .int .u32 3, .int .u32 0, .int .u32 0], .agg #[.int .i64 4, .int .u64 9, .int .u64 6, .int .u32 0, .int .u32 0, .int .u32 0]] w' fun r w'' => r = .returned (.int .i64 4) ∧ Below w'.heap.size w' w'') := by
    refine Lib.hid fun w' h' => ?_
    have := size_any' awA awB (aw_fits awB (by simp)) w' h'
    rw [aw_size] at this
    exact this
  obtain ⟨B, hB⟩ : ∃ B, w.heap.size = B := ⟨_, rfl⟩
  rw [hB] at S1 HP hblt
  have HB := Lib.hid hB
  clear hL s1 b1 n1 hB
  go_enter Tryd.func9, Tryd.ntmps9
  go_wp2_with fail
  rw [← e1, HB.out]
  clear e1
  refine HP.out.mono ?_
  rintro r w2 ⟨rfl, h2⟩
  have L2 := Lib.hid (L1.out.below h2)
  have S2 := Lib.hid (S1.out.below h2)
  have B2 := Lib.hid (B1.out.trans (h2.mono B1.out.size))
  have hb2 : B < w2.heap.size := by have := h2.size; omega
  clear h2 HP L1 S1 B1 hblt
  go_wp2_with fail
  refine (HR.out w2 L2.out).mono ?_
  rintro r w3 ⟨ao, cap, rfl, m3, h3⟩
  have M3 := Lib.hid m3
  have L3 := Lib.hid (L2.out.below h3)
  have S3 := Lib.hid (S2.out.below h3)
  have B3 := Lib.hid (B2.out.trans (h3.mono B2.out.size))
  have hb3 : B < w3.heap.size := by have := h3.size; omega
  clear h3 HR L2 S2 B2 m3 hb2
  go_wp2_with fail
  refine wp_region_rel_end [.is (.int .i64 0), .is (.bool true), .is (.bool true), .is (.string ⟨#[22, 0, 0, 3, 4, 1, 1, 0]⟩), .is (.bool true), .is (.bool true), .is (.bool true), .is (.int .i64 0), .is (.bool true), .is (.bool true), .is (.bool true), .is (.slice ao 2 cap), .is (.slice (some ⟨B, 0, none⟩) 2 2), .is (.bool true), .is (.bool true), .is (.bool true), .is (.slice (some ⟨B, 0, none⟩) 2 2), .is (.pointer (some ⟨B, 0, none⟩)), .is (.agg #[.int .i64 22, .int .u64 9, .int .u64 5, .int .u32 3, .int .u32 0, .int .u32 0]), .is (.slice (some ⟨B, 0, none⟩) 2 2), .is (.pointer (some ⟨B, 6, none⟩)), .is (.agg #[.int .i64 4, .int .u64 9, .int .u64 6, .int .u32 0, .int .u32 0, .int .u32 0]), .is (.int .i64 4), .is (.bool true), .is (.bool true), .is (.bool true)]
    (fun w' => Below w3.heap.size w3 w') [(0, 19), (1, 20), (2, 21), (3, 22), (4, 23), (5, 24), (6, 25), (7, 26), (8, 27), (9, 28), (10, 29), (11, 30), (12, 31), (13, 32), (14, 33), (15, 34), (16, 35), (17, 36), (18, 37), (19, 38), (20, 39), (21, 40), (22, 41), (23, 42), (24, 43), (25, 0)] 26 (by kernel_rfl) (by kernel_rfl) (by kernel_rfl) (by kernel_rfl) ?hC ?hs ?hf
  case hC => exact ⟨rfl, rfl, rfl, Nat.le_refl _, fun _ _ => rfl⟩
  case hs =>
    refine stepsOk_succ ?s25 (stepsOk_succ ?s24 (stepsOk_succ ?s23 (stepsOk_succ ?s22 (stepsOk_succ ?s21 (stepsOk_succ ?s20 (stepsOk_succ ?s19 (stepsOk_succ ?s18 (stepsOk_succ ?s17 (stepsOk_succ ?s16 (stepsOk_succ ?s15 (stepsOk_succ ?s14 (stepsOk_succ ?s13 (stepsOk_succ ?s12 (stepsOk_succ ?s11 (stepsOk_succ ?s10 (stepsOk_succ ?s9 (stepsOk_succ ?s8 (stepsOk_succ ?s7 (stepsOk_succ ?s6 (stepsOk_succ ?s5 (stepsOk_succ ?s4 (stepsOk_succ ?s3 (stepsOk_succ ?s2 (stepsOk_succ ?s1 (stepsOk_succ ?s0 (stepsOk_zero))))))))))))))))))))))))))
    case s0 =>
      refine stepOk0 rfl (by kernel_rfl) ?_
      rintro w' hC
      intro K hK
      go_simp
      exact hK _ _ rfl ⟨rfl, hC, Below.refl _ _⟩
    case s1 =>
      refine stepOk1 0 19 rfl (by kernel_rfl) ?_
      rintro w' hC v1 rfl
      intro K hK
      go_simp
      exact hK _ _ rfl ⟨rfl, hC, Below.refl _ _⟩
    case s2 =>
      refine stepOk1 1 20 rfl (by kernel_rfl) ?_
      rintro w' hC v1 rfl
      intro K hK
      go_simp
      exact hK _ _ rfl ⟨rfl, hC, Below.refl _ _⟩
    case s3 =>
      refine stepOk1 2 21 rfl (by kernel_rfl) ?_
      rintro w' hC v1 rfl
      intro K hK
      go_simp
      exact hK _ _ rfl ⟨rfl, hC, Below.refl _ _⟩
    case s4 =>
      refine stepOk2 2 21 3 22 rfl (by kernel_rfl) ?_
      rintro w' hC v1 v2 rfl rfl
      intro K hK
      go_simp
      exact hK _ _ rfl ⟨rfl, hC, Below.refl _ _⟩
    case s5 =>
      refine stepOk2 2 21 4 23 rfl (by kernel_rfl) ?_
      rintro w' hC v1 v2 rfl rfl
      intro K hK
      go_simp
      exact hK _ _ rfl ⟨rfl, hC, Below.refl _ _⟩
    case s6 =>
      refine stepOk1 5 24 rfl (by kernel_rfl) ?_
      rintro w' hC v1 rfl
      intro K hK
      go_simp
      exact hK _ _ rfl ⟨rfl, hC, Below.refl _ _⟩
    case s7 =>
      refine stepOk1 6 25 rfl (by kernel_rfl) ?_
      rintro w' hC v1 rfl
      intro K hK
      go_simp
      exact hK _ _ rfl ⟨rfl, hC, Below.refl _ _⟩
    case s8 =>
      refine stepOk2 6 25 7 26 rfl (by kernel_rfl) ?_
      rintro w' hC v1 v2 rfl rfl
      intro K hK
      go_simp
      exact hK _ _ rfl ⟨rfl, hC, Below.refl _ _⟩
    case s9 =>
      refine stepOk2 6 25 8 27 rfl (by kernel_rfl) ?_
      rintro w' hC v1 v2 rfl rfl
      intro K hK
      go_simp
      exact hK _ _ rfl ⟨rfl, hC, Below.refl _ _⟩
    case s10 =>
      refine stepOk1 9 28 rfl (by kernel_rfl) ?_
      rintro w' hC v1 rfl
      intro K hK
      go_simp
      exact hK _ _ rfl ⟨rfl, hC, Below.refl _ _⟩
    case s11 =>
      refine stepOk1 10 29 rfl (by kernel_rfl) ?_
      rintro w' hC v1 rfl
      intro K hK
      go_simp
      exact hK _ _ rfl ⟨rfl, hC, Below.refl _ _⟩
    case s12 =>
      refine stepOk1 10 29 rfl (by kernel_rfl) ?_
      rintro w' hC v1 rfl
      intro K hK
      go_simp
      exact hK _ _ rfl ⟨rfl, hC, Below.refl _ _⟩
    case s13 =>
      refine stepOk3 10 29 11 30 12 31 rfl (by kernel_rfl) ?_
      rintro w' hC v1 v2 v3 rfl rfl rfl
      intro K hK
      go_simp
      refine (same_any ao (some ⟨B, 0, none⟩) cap 2 [awA, awB] w' (M3.out.below hC) (S3.out.below hC)).mono ?_
      rintro e w2 ⟨rfl, h1⟩
      exact hK _ _ rfl ⟨rfl, below_drawn hC h1, below_drawn (Below.refl _ _) h1⟩
    case s14 =>
      refine stepOk2 10 29 13 32 rfl (by kernel_rfl) ?_
      rintro w' hC v1 v2 rfl rfl
      intro K hK
      go_simp
      exact hK _ _ rfl ⟨rfl, hC, Below.refl _ _⟩
    case s15 =>
      refine stepOk1 14 33 rfl (by kernel_rfl) ?_
      rintro w' hC v1 rfl
      intro K hK
      go_simp
      exact hK _ _ rfl ⟨rfl, hC, Below.refl _ _⟩
    case s16 =>
      refine stepOk1 15 34 rfl (by kernel_rfl) ?_
      rintro w' hC v1 rfl
      intro K hK
      go_simp
      exact hK _ _ rfl ⟨rfl, hC, Below.refl _ _⟩
    case s17 =>
      refine stepOk2 15 34 16 35 rfl (by kernel_rfl) ?_
      rintro w' hC v1 v2 rfl rfl
      intro K hK
      go_simp
      exact hK _ _ rfl ⟨rfl, hC, Below.refl _ _⟩
    case s18 =>
      refine stepOk2 15 34 17 36 rfl (by kernel_rfl) ?_
      rintro w' hC v1 v2 rfl rfl
      intro K hK
      obtain ⟨b_, off_, hq, -, a6⟩ := (S3.out.below hC).at 0 (by decide)
      cases hq
      obtain ⟨c0, c1, c2, c3, c4, c5⟩ := a6
      simp only [Nat.zero_add, Nat.zero_mul, Nat.one_mul] at c0 c1 c2 c3 c4 c5
      go_simp
      exact hK _ _ rfl ⟨rfl, hC, Below.refl _ _⟩
    case s19 =>
      refine stepOk1 15 34 rfl (by kernel_rfl) ?_
      rintro w' hC v1 rfl
      intro K hK
      go_simp
      exact hK _ _ rfl ⟨rfl, hC, Below.refl _ _⟩
    case s20 =>
      refine stepOk2 15 34 19 38 rfl (by kernel_rfl) ?_
      rintro w' hC v1 v2 rfl rfl
      intro K hK
      go_simp
      exact hK _ _ rfl ⟨rfl, hC, Below.refl _ _⟩
    case s21 =>
      refine stepOk2 15 34 20 39 rfl (by kernel_rfl) ?_
      rintro w' hC v1 v2 rfl rfl
      intro K hK
      obtain ⟨b_, off_, hq, -, a6⟩ := (S3.out.below hC).at 1 (by decide)
      cases hq
      obtain ⟨c0, c1, c2, c3, c4, c5⟩ := a6
      simp only [Nat.zero_add, Nat.zero_mul, Nat.one_mul] at c0 c1 c2 c3 c4 c5
      go_simp
      exact hK _ _ rfl ⟨rfl, hC, Below.refl _ _⟩
    case s22 =>
      refine stepOk3 15 34 18 37 21 40 rfl (by kernel_rfl) ?_
      rintro w' hC v1 v2 v3 rfl rfl rfl
      intro K hK
      go_simp
      refine (HS.out w' (L3.out.below hC)).mono ?_
      rintro e w2 ⟨rfl, h1⟩
      exact hK _ _ rfl ⟨rfl, hC.trans (h1.mono hC.size), h1⟩
    case s23 =>
      refine stepOk2 15 34 22 41 rfl (by kernel_rfl) ?_
      rintro w' hC v1 v2 rfl rfl
      intro K hK
      go_simp
      exact hK _ _ rfl ⟨rfl, hC, Below.refl _ _⟩
    case s24 =>
      refine stepOk2 15 34 23 42 rfl (by kernel_rfl) ?_
      rintro w' hC v1 v2 rfl rfl
      intro K hK
      go_simp
      exact hK _ _ rfl ⟨rfl, hC, Below.refl _ _⟩
    case s25 =>
      refine stepOk1 24 43 rfl (by kernel_rfl) ?_
      rintro w' hC v1 rfl
      intro K hK
      go_simp
      exact hK _ _ rfl ⟨rfl, hC, Below.refl _ _⟩
  case hf =>
    intro w' hC t hx
    have h25 : t.getD 0 undef = .bool true := hx (25, 0) (by simp)
    have H25 := Lib.hid h25
    clear h25 hx
    go_wp2_with fail
    go_ret
    exact ⟨by rw [H25.out], B3.out.trans (hC.mono B3.out.size)⟩

end Go.Proofs.YtobljhgiibpmkaaDoor
