/-
  conf's checks of a task, of a line, of lists, over this seat's translation. Conditions: the table's cells (IsL), what is checked in a slice.
-/
import Derived.Test.YtbhnehacgkhpbaaDoorCf1
namespace Go.Proofs.YtbhnehacgkhpbaaDoor
open Go.RowKit
set_option linter.unusedVariables false
set_option linter.unusedSimpArgs false

def taskN (t : Tsk) : Nat → Int
  | 0 => rangeE t.lv 0 31
  | 1 => rangeE t.ot 1 1073741824
  | 2 => rangeE t.pd 0 1073741824
  | 3 => rangeE t.dl 0 1073741824
  | _ => rangeE t.mm 0 256
theorem range_five {n lo hi : Int} (h : rangeE n lo hi ≠ 0) : rangeE n lo hi = 5 := (outB_is n lo hi).2.2 h
theorem taskE_hit (t : Tsk) (k : Nat) (hk : k < 5) (h1 : ∀ j, j < k → taskN t j = 0) (h2 : taskN t k ≠ 0) : taskE t = (taskN t k, (k : Int) + 1) := by
  have h5 : taskN t k = 5 := by
    rcases (show k = 0 ∨ k = 1 ∨ k = 2 ∨ k = 3 ∨ k = 4 by omega) with rfl | rfl | rfl | rfl | rfl <;> exact range_five h2
  rw [h5]
  unfold taskE
  rcases (show k = 0 ∨ k = 1 ∨ k = 2 ∨ k = 3 ∨ k = 4 by omega) with rfl | rfl | rfl | rfl | rfl
  · have e0 : rangeE t.lv 0 31 ≠ 0 := h2
    rw [if_pos e0]; rfl
  · have e0 : rangeE t.lv 0 31 = 0 := h1 0 (by omega)
    have e1 : rangeE t.ot 1 1073741824 ≠ 0 := h2
    rw [if_neg (by simp [e0]), if_pos e1]; rfl
  · have e0 : rangeE t.lv 0 31 = 0 := h1 0 (by omega)
    have e1 : rangeE t.ot 1 1073741824 = 0 := h1 1 (by omega)
    have e2 : rangeE t.pd 0 1073741824 ≠ 0 := h2
    rw [if_neg (by simp [e0]), if_neg (by simp [e1]), if_pos e2]; rfl
  · have e0 : rangeE t.lv 0 31 = 0 := h1 0 (by omega)
    have e1 : rangeE t.ot 1 1073741824 = 0 := h1 1 (by omega)
    have e2 : rangeE t.pd 0 1073741824 = 0 := h1 2 (by omega)
    have e3 : rangeE t.dl 0 1073741824 ≠ 0 := h2
    rw [if_neg (by simp [e0]), if_neg (by simp [e1]), if_neg (by simp [e2]), if_pos e3]; rfl
  · have e0 : rangeE t.lv 0 31 = 0 := h1 0 (by omega)
    have e1 : rangeE t.ot 1 1073741824 = 0 := h1 1 (by omega)
    have e2 : rangeE t.pd 0 1073741824 = 0 := h1 2 (by omega)
    have e3 : rangeE t.dl 0 1073741824 = 0 := h1 3 (by omega)
    have e4 : rangeE t.mm 0 256 ≠ 0 := h2
    rw [if_neg (by simp [e0]), if_neg (by simp [e1]), if_neg (by simp [e2]), if_neg (by simp [e3]), if_pos e4]; rfl
theorem taskE_code (t : Tsk) (h1 : ∀ j, j < 5 → taskN t j = 0) : taskE t = codeE 6 false t.code := by
  have e0 : rangeE t.lv 0 31 = 0 := h1 0 (by omega)
  have e1 : rangeE t.ot 1 1073741824 = 0 := h1 1 (by omega)
  have e2 : rangeE t.pd 0 1073741824 = 0 := h1 2 (by omega)
  have e3 : rangeE t.dl 0 1073741824 = 0 := h1 3 (by omega)
  have e4 : rangeE t.mm 0 256 = 0 := h1 4 (by omega)
  unfold taskE
  rw [if_neg (by simp [e0]), if_neg (by simp [e1]), if_neg (by simp [e2]), if_neg (by simp [e3]), if_neg (by simp [e4])]

set_option maxRecDepth 100000 in
set_option maxHeartbeats 4000000 in
theorem ctask_any (x : TskV) (w : World) (hl : SeenI w x.ao x.cap x.t.code) (hL : IsL w) (hk : ∀ e ∈ x.t.code, e.k < 4294967296) :
    Calls Tryd.prog 33 #[tskV x] w fun r w' => r = .returned (.tuple #[.int .i64 (taskE x.t).1, .int .i64 (taskE x.t).2]) ∧ Below w.heap.size w w' := by
  have HT := Lib.hid (fun k hk h1 h2 => taskE_hit x.t k hk h1 h2)
  have HC0 := Lib.hid (taskE_code x.t)
  have HCC := Lib.hid (fun w' h' hL' => ccode_any x.ao x.cap x.t.code 6 false w' h' hL' (by decide) (by decide) hk)
  have HN : Hid (taskN x.t = taskN x.t) := Lib.hid rfl
  obtain ⟨⟨lv, ot, pd, dl, mm, code⟩, ao, cap⟩ := x
  unfold tskV
  simp only at *
  generalize taskE ⟨lv, ot, pd, dl, mm, code⟩ = R at *
  generalize codeE 6 false code = RC at *
  obtain ⟨w1, e1⟩ : ∃ w1, w1 = w.alloc (.cells #[.int .i64 lv, .int .i64 ot, .int .i64 pd, .int .i64 dl, .int .i64 mm, .slice ao code.length cap] 39) := ⟨_, rfl⟩
  obtain ⟨s1, n1, b1⟩ := new_size e1
  obtain ⟨w2, e2⟩ : ∃ w2, w2 = w1.alloc (.cells #[.int .i64 lv, .int .i64 0, .int .i64 31, .int .i64 ot, .int .i64 1, .int .i64 1073741824, .int .i64 pd, .int .i64 0, .int .i64 1073741824, .int .i64 dl, .int .i64 0, .int .i64 1073741824, .int .i64 mm, .int .i64 0, .int .i64 256] 72) := ⟨_, rfl⟩
  obtain ⟨s2, n2, b2⟩ := new_size e2
  obtain ⟨D, hD⟩ : ∃ D, w.heap.size = D := ⟨_, rfl⟩
  rw [hD] at n1
  obtain ⟨c0, c1, c2, c3, c4, c5⟩ := tskcells (x := ⟨⟨lv, ot, pd, dl, mm, code⟩, ao, cap⟩) n1
  have n1' := blk_on b2 n1
  have N2 := Lib.hid n1'
  have HL := Lib.hid (hL.below (below_on b1 b2))
  have H := Lib.hid (hl.below (below_on b1 b2))
  have B2 := Lib.hid (below_on b1 b2)
  have HD := Lib.hid hD
  obtain ⟨E, hE⟩ : ∃ E, w1.heap.size = E := ⟨_, rfl⟩
  rw [hE] at n2
  have M2 := Lib.hid n2
  have HE := Lib.hid hE
  have q (j : Nat) (v : Value) (hj : (#[.int .i64 lv, .int .i64 0, .int .i64 31, .int .i64 ot, .int .i64 1, .int .i64 1073741824, .int .i64 pd, .int .i64 0, .int .i64 1073741824, .int .i64 dl, .int .i64 0, .int .i64 1073741824, .int .i64 mm, .int .i64 0, .int .i64 256] : Array Value)[j]? = some v) : w2.cell? ⟨E, j, none⟩ = some v := by simp only [World.cell?, n2]; exact hj
  have q0 := q 0 _ rfl
  have q1 := q 1 _ rfl
  have q2 := q 2 _ rfl
  have q3 := q 3 _ rfl
  have q4 := q 4 _ rfl
  have q5 := q 5 _ rfl
  have q6 := q 6 _ rfl
  have q7 := q 7 _ rfl
  have q8 := q 8 _ rfl
  have q9 := q 9 _ rfl
  have q10 := q 10 _ rfl
  have q11 := q 11 _ rfl
  have q12 := q 12 _ rfl
  have q13 := q 13 _ rfl
  have q14 := q 14 _ rfl
  have hmx := hl.mx
  unfold maxLen at hmx
  simp only at c0 c1 c2 c3 c4 c5
  have hix0 : ∀ W, (Instr.index 72 (.agg #[.int .i64 lv, .int .i64 0, .int .i64 31, .int .i64 ot, .int .i64 1, .int .i64 1073741824, .int .i64 pd, .int .i64 0, .int .i64 1073741824, .int .i64 dl, .int .i64 0, .int .i64 1073741824, .int .i64 mm, .int .i64 0, .int .i64 256]) (.int .i64 0)).run Tryd.prog W = .ok (.agg #[.int .i64 lv, .int .i64 0, .int .i64 31]) W := fun _ => by kernel_rfl
  have hix1 : ∀ W, (Instr.index 72 (.agg #[.int .i64 lv, .int .i64 0, .int .i64 31, .int .i64 ot, .int .i64 1, .int .i64 1073741824, .int .i64 pd, .int .i64 0, .int .i64 1073741824, .int .i64 dl, .int .i64 0, .int .i64 1073741824, .int .i64 mm, .int .i64 0, .int .i64 256]) (.int .i64 1)).run Tryd.prog W = .ok (.agg #[.int .i64 ot, .int .i64 1, .int .i64 1073741824]) W := fun _ => by kernel_rfl
  have hix2 : ∀ W, (Instr.index 72 (.agg #[.int .i64 lv, .int .i64 0, .int .i64 31, .int .i64 ot, .int .i64 1, .int .i64 1073741824, .int .i64 pd, .int .i64 0, .int .i64 1073741824, .int .i64 dl, .int .i64 0, .int .i64 1073741824, .int .i64 mm, .int .i64 0, .int .i64 256]) (.int .i64 2)).run Tryd.prog W = .ok (.agg #[.int .i64 pd, .int .i64 0, .int .i64 1073741824]) W := fun _ => by kernel_rfl
  have hix3 : ∀ W, (Instr.index 72 (.agg #[.int .i64 lv, .int .i64 0, .int .i64 31, .int .i64 ot, .int .i64 1, .int .i64 1073741824, .int .i64 pd, .int .i64 0, .int .i64 1073741824, .int .i64 dl, .int .i64 0, .int .i64 1073741824, .int .i64 mm, .int .i64 0, .int .i64 256]) (.int .i64 3)).run Tryd.prog W = .ok (.agg #[.int .i64 dl, .int .i64 0, .int .i64 1073741824]) W := fun _ => by kernel_rfl
  have hix4 : ∀ W, (Instr.index 72 (.agg #[.int .i64 lv, .int .i64 0, .int .i64 31, .int .i64 ot, .int .i64 1, .int .i64 1073741824, .int .i64 pd, .int .i64 0, .int .i64 1073741824, .int .i64 dl, .int .i64 0, .int .i64 1073741824, .int .i64 mm, .int .i64 0, .int .i64 256]) (.int .i64 4)).run Tryd.prog W = .ok (.agg #[.int .i64 mm, .int .i64 0, .int .i64 256]) W := fun _ => by kernel_rfl
  clear s1 n1 b1 s2 n2 b2 hL hl hD hE n1' q hk
  go_enter Tryd.func33, Tryd.ntmps33
  go_upto_region 1 with fail
  rw [← e1, HD.out]
  clear e1
  go_upto_region 2 with fail
  rw [← e2, HE.out]
  clear e2 c0 c1 c2 c3 c4 c5
  go_wp2_with fail
  clear q0 q1 q2 q3 q4 q5 q6 q7 q8 q9 q10 q11 q12 q13 q14
  go_loopw [25] (fun x wr => ∃ k : Nat, x = .int .i64 k ∧ k ≤ 5 ∧ Hid (Below w2.heap.size w2 wr) ∧ Hid (∀ j, j < k → taskN ⟨lv, ot, pd, dl, mm, code⟩ j = 0)) (fun x _ => 5 - (intOf x).toNat)
  case atStart => exact ⟨0, rfl, Nat.zero_le _, Lib.hid (Below.refl _ _), Lib.hid (fun j hj => absurd hj (by omega))⟩
  case round =>
    obtain ⟨k, rfl, hk, B3, A1⟩ := hrel
    have BA := Lib.hid (below_on B2.out B3.out)
    obtain ⟨F, hF⟩ : ∃ F, wr.heap.size = F := ⟨_, rfl⟩
    have HF := Lib.hid hF
    rcases (show k = 0 ∨ k = 1 ∨ k = 2 ∨ k = 3 ∨ k = 4 ∨ k = 5 by omega) with rfl | rfl | rfl | rfl | rfl | rfl
    · have HR := Lib.hid (fun h => HT.out 0 (by omega) (fun j hj => A1.out j hj) h)
      have A2 : Hid (rangeE lv 0 31 = 0 → ∀ j, j < 1 → taskN ⟨lv, ot, pd, dl, mm, code⟩ j = 0) := Lib.hid (fun h j hj => by
        by_cases e : j = 0
        · subst e; exact h
        · exact A1.out j (by omega))
      have HR' : Hid (rangeE lv 0 31 ≠ 0 → R = (rangeE lv 0 31, 1)) := Lib.hid (fun h => by have := HR.out h; exact this)
      have HC := Lib.hid (fun w' => range_any lv 0 31 w')
      generalize rangeE lv 0 31 = X at *
      obtain ⟨w3, e3⟩ : ∃ w3, w3 = wr.alloc (.cells #[.int .i64 lv, .int .i64 0, .int .i64 31] 71) := ⟨_, rfl⟩
      obtain ⟨s3, n3, b3⟩ := new_size e3
      rw [hF] at n3
      have d0 : w3.cell? ⟨F, 0, none⟩ = some (.int .i64 lv) := by simp [World.cell?, n3]
      have d1 : w3.cell? ⟨F, 1, none⟩ = some (.int .i64 0) := by simp [World.cell?, n3]
      have d2 : w3.cell? ⟨F, 2, none⟩ = some (.int .i64 31) := by simp [World.cell?, n3]
      have C3 := Lib.hid (below_on B3.out b3)
      clear HR HT HC0 HCC s3 n3 b3 A1 hF
      go_upto_region 5 with fail
      rw [← e3, HF.out]
      clear e3
      go_wp2_with fail
      refine (HC.out w3).mono ?_
      rintro r w4 ⟨rfl, rfl⟩
      clear HC d0 d1 d2
      by_cases hX : X = 0
      · subst hX
        have A3 := Lib.hid (A2.out rfl)
        clear A2 HR'
        go_wp2_with fail
        go_roundw
        case rel => exact ⟨1, rfl, by omega, C3, A3⟩
        case measure => simp [intOf]
      · have hX' : (X != 0) = true := by simp [hX]
        have hR := HR'.out hX
        subst hR
        have BZ := Lib.hid (below_on B2.out C3.out)
        clear A2 HR' hX
        go_wp2
        go_ret2
        exact ⟨rfl, BZ.out⟩
    · have HR := Lib.hid (fun h => HT.out 1 (by omega) (fun j hj => A1.out j hj) h)
      have A2 : Hid (rangeE ot 1 1073741824 = 0 → ∀ j, j < 2 → taskN ⟨lv, ot, pd, dl, mm, code⟩ j = 0) := Lib.hid (fun h j hj => by
        by_cases e : j = 1
        · subst e; exact h
        · exact A1.out j (by omega))
      have HR' : Hid (rangeE ot 1 1073741824 ≠ 0 → R = (rangeE ot 1 1073741824, 2)) := Lib.hid (fun h => by have := HR.out h; exact this)
      have HC := Lib.hid (fun w' => range_any ot 1 1073741824 w')
      generalize rangeE ot 1 1073741824 = X at *
      obtain ⟨w3, e3⟩ : ∃ w3, w3 = wr.alloc (.cells #[.int .i64 ot, .int .i64 1, .int .i64 1073741824] 71) := ⟨_, rfl⟩
      obtain ⟨s3, n3, b3⟩ := new_size e3
      rw [hF] at n3
      have d0 : w3.cell? ⟨F, 0, none⟩ = some (.int .i64 ot) := by simp [World.cell?, n3]
      have d1 : w3.cell? ⟨F, 1, none⟩ = some (.int .i64 1) := by simp [World.cell?, n3]
      have d2 : w3.cell? ⟨F, 2, none⟩ = some (.int .i64 1073741824) := by simp [World.cell?, n3]
      have C3 := Lib.hid (below_on B3.out b3)
      clear HR HT HC0 HCC s3 n3 b3 A1 hF
      go_upto_region 5 with fail
      rw [← e3, HF.out]
      clear e3
      go_wp2_with fail
      refine (HC.out w3).mono ?_
      rintro r w4 ⟨rfl, rfl⟩
      clear HC d0 d1 d2
      by_cases hX : X = 0
      · subst hX
        have A3 := Lib.hid (A2.out rfl)
        clear A2 HR'
        go_wp2_with fail
        go_roundw
        case rel => exact ⟨2, rfl, by omega, C3, A3⟩
        case measure => simp [intOf]
      · have hX' : (X != 0) = true := by simp [hX]
        have hR := HR'.out hX
        subst hR
        have BZ := Lib.hid (below_on B2.out C3.out)
        clear A2 HR' hX
        go_wp2
        go_ret2
        exact ⟨rfl, BZ.out⟩
    · have HR := Lib.hid (fun h => HT.out 2 (by omega) (fun j hj => A1.out j hj) h)
      have A2 : Hid (rangeE pd 0 1073741824 = 0 → ∀ j, j < 3 → taskN ⟨lv, ot, pd, dl, mm, code⟩ j = 0) := Lib.hid (fun h j hj => by
        by_cases e : j = 2
        · subst e; exact h
        · exact A1.out j (by omega))
      have HR' : Hid (rangeE pd 0 1073741824 ≠ 0 → R = (rangeE pd 0 1073741824, 3)) := Lib.hid (fun h => by have := HR.out h; exact this)
      have HC := Lib.hid (fun w' => range_any pd 0 1073741824 w')
      generalize rangeE pd 0 1073741824 = X at *
      obtain ⟨w3, e3⟩ : ∃ w3, w3 = wr.alloc (.cells #[.int .i64 pd, .int .i64 0, .int .i64 1073741824] 71) := ⟨_, rfl⟩
      obtain ⟨s3, n3, b3⟩ := new_size e3
      rw [hF] at n3
      have d0 : w3.cell? ⟨F, 0, none⟩ = some (.int .i64 pd) := by simp [World.cell?, n3]
      have d1 : w3.cell? ⟨F, 1, none⟩ = some (.int .i64 0) := by simp [World.cell?, n3]
      have d2 : w3.cell? ⟨F, 2, none⟩ = some (.int .i64 1073741824) := by simp [World.cell?, n3]
      have C3 := Lib.hid (below_on B3.out b3)
      clear HR HT HC0 HCC s3 n3 b3 A1 hF
      go_upto_region 5 with fail
      rw [← e3, HF.out]
      clear e3
      go_wp2_with fail
      refine (HC.out w3).mono ?_
      rintro r w4 ⟨rfl, rfl⟩
      clear HC d0 d1 d2
      by_cases hX : X = 0
      · subst hX
        have A3 := Lib.hid (A2.out rfl)
        clear A2 HR'
        go_wp2_with fail
        go_roundw
        case rel => exact ⟨3, rfl, by omega, C3, A3⟩
        case measure => simp [intOf]
      · have hX' : (X != 0) = true := by simp [hX]
        have hR := HR'.out hX
        subst hR
        have BZ := Lib.hid (below_on B2.out C3.out)
        clear A2 HR' hX
        go_wp2
        go_ret2
        exact ⟨rfl, BZ.out⟩
    · have HR := Lib.hid (fun h => HT.out 3 (by omega) (fun j hj => A1.out j hj) h)
      have A2 : Hid (rangeE dl 0 1073741824 = 0 → ∀ j, j < 4 → taskN ⟨lv, ot, pd, dl, mm, code⟩ j = 0) := Lib.hid (fun h j hj => by
        by_cases e : j = 3
        · subst e; exact h
        · exact A1.out j (by omega))
      have HR' : Hid (rangeE dl 0 1073741824 ≠ 0 → R = (rangeE dl 0 1073741824, 4)) := Lib.hid (fun h => by have := HR.out h; exact this)
      have HC := Lib.hid (fun w' => range_any dl 0 1073741824 w')
      generalize rangeE dl 0 1073741824 = X at *
      obtain ⟨w3, e3⟩ : ∃ w3, w3 = wr.alloc (.cells #[.int .i64 dl, .int .i64 0, .int .i64 1073741824] 71) := ⟨_, rfl⟩
      obtain ⟨s3, n3, b3⟩ := new_size e3
      rw [hF] at n3
      have d0 : w3.cell? ⟨F, 0, none⟩ = some (.int .i64 dl) := by simp [World.cell?, n3]
      have d1 : w3.cell? ⟨F, 1, none⟩ = some (.int .i64 0) := by simp [World.cell?, n3]
      have d2 : w3.cell? ⟨F, 2, none⟩ = some (.int .i64 1073741824) := by simp [World.cell?, n3]
      have C3 := Lib.hid (below_on B3.out b3)
      clear HR HT HC0 HCC s3 n3 b3 A1 hF
      go_upto_region 5 with fail
      rw [← e3, HF.out]
      clear e3
      go_wp2_with fail
      refine (HC.out w3).mono ?_
      rintro r w4 ⟨rfl, rfl⟩
      clear HC d0 d1 d2
      by_cases hX : X = 0
      · subst hX
        have A3 := Lib.hid (A2.out rfl)
        clear A2 HR'
        go_wp2_with fail
        go_roundw
        case rel => exact ⟨4, rfl, by omega, C3, A3⟩
        case measure => simp [intOf]
      · have hX' : (X != 0) = true := by simp [hX]
        have hR := HR'.out hX
        subst hR
        have BZ := Lib.hid (below_on B2.out C3.out)
        clear A2 HR' hX
        go_wp2
        go_ret2
        exact ⟨rfl, BZ.out⟩
    · have HR := Lib.hid (fun h => HT.out 4 (by omega) (fun j hj => A1.out j hj) h)
      have A2 : Hid (rangeE mm 0 256 = 0 → ∀ j, j < 5 → taskN ⟨lv, ot, pd, dl, mm, code⟩ j = 0) := Lib.hid (fun h j hj => by
        by_cases e : j = 4
        · subst e; exact h
        · exact A1.out j (by omega))
      have HR' : Hid (rangeE mm 0 256 ≠ 0 → R = (rangeE mm 0 256, 5)) := Lib.hid (fun h => by have := HR.out h; exact this)
      have HC := Lib.hid (fun w' => range_any mm 0 256 w')
      generalize rangeE mm 0 256 = X at *
      obtain ⟨w3, e3⟩ : ∃ w3, w3 = wr.alloc (.cells #[.int .i64 mm, .int .i64 0, .int .i64 256] 71) := ⟨_, rfl⟩
      obtain ⟨s3, n3, b3⟩ := new_size e3
      rw [hF] at n3
      have d0 : w3.cell? ⟨F, 0, none⟩ = some (.int .i64 mm) := by simp [World.cell?, n3]
      have d1 : w3.cell? ⟨F, 1, none⟩ = some (.int .i64 0) := by simp [World.cell?, n3]
      have d2 : w3.cell? ⟨F, 2, none⟩ = some (.int .i64 256) := by simp [World.cell?, n3]
      have C3 := Lib.hid (below_on B3.out b3)
      clear HR HT HC0 HCC s3 n3 b3 A1 hF
      go_upto_region 5 with fail
      rw [← e3, HF.out]
      clear e3
      go_wp2_with fail
      refine (HC.out w3).mono ?_
      rintro r w4 ⟨rfl, rfl⟩
      clear HC d0 d1 d2
      by_cases hX : X = 0
      · subst hX
        have A3 := Lib.hid (A2.out rfl)
        clear A2 HR'
        go_wp2_with fail
        go_roundw
        case rel => exact ⟨5, rfl, by omega, C3, A3⟩
        case measure => simp [intOf]
      · have hX' : (X != 0) = true := by simp [hX]
        have hR := HR'.out hX
        subst hR
        have BZ := Lib.hid (below_on B2.out C3.out)
        clear A2 HR' hX
        go_wp2
        go_ret2
        exact ⟨rfl, BZ.out⟩
    · have n3 := blk_on B3.out N2.out
      obtain ⟨c0, c1, c2, c3, c4, c5⟩ := tskcells (x := ⟨⟨lv, ot, pd, dl, mm, code⟩, ao, cap⟩) n3
      simp only at c0 c1 c2 c3 c4 c5
      have HR := Lib.hid (HC0.out A1.out)
      have S3 := Lib.hid (H.out.below B3.out)
      have L3 := Lib.hid (HL.out.below B3.out)
      clear n3 HT HC0 A1 hF
      go_wp2_with fail
      refine (HCC.out wr S3.out L3.out).mono ?_
      rintro r w4 ⟨rfl, h4⟩
      have B4 := Lib.hid (below_on BA.out h4)
      clear h4
      go_wp2
      go_ret2
      have hR := HR.out
      subst hR
      exact ⟨rfl, B4.out⟩

set_option maxRecDepth 100000 in
set_option maxHeartbeats 2000000 in
theorem cline_any (x : LinV) (w : World) (hl : SeenI w x.ao x.cap x.t.code) (hL : IsL w) (hk : ∀ e ∈ x.t.code, e.k < 4294967296) :
    Calls Tryd.prog 35 #[linV x] w fun r w' => r = .returned (.tuple #[.int .i64 (lineE x.t).1, .int .i64 (lineE x.t).2]) ∧ Below w.heap.size w w' := by
  have HE1 : Hid (rangeE x.t.mm 0 256 ≠ 0 → lineE x.t = (5, 1)) := Lib.hid (fun h => by unfold lineE; rw [if_pos h])
  have HE2 : Hid (rangeE x.t.mm 0 256 = 0 → lineE x.t = codeE 2 true x.t.code) := Lib.hid (fun h => by unfold lineE; rw [if_neg (by simp [h])])
  have HX5 : Hid (rangeE x.t.mm 0 256 ≠ 0 → rangeE x.t.mm 0 256 = 5) := Lib.hid range_five
  have HCC := Lib.hid (fun w' h' hL' => ccode_any x.ao x.cap x.t.code 2 true w' h' hL' (by decide) (by decide) hk)
  have HC := Lib.hid (fun w' => range_any x.t.mm 0 256 w')
  obtain ⟨⟨mm, code⟩, ao, cap⟩ := x
  unfold linV
  simp only at *
  generalize lineE ⟨mm, code⟩ = R at *
  generalize codeE 2 true code = RC at *
  generalize rangeE mm 0 256 = X at *
  obtain ⟨w1, e1⟩ : ∃ w1, w1 = w.alloc (.cells #[.int .i64 mm, .slice ao code.length cap] 43) := ⟨_, rfl⟩
  obtain ⟨s1, n1, b1⟩ := new_size e1
  obtain ⟨D, hD⟩ : ∃ D, w.heap.size = D := ⟨_, rfl⟩
  rw [hD] at n1
  obtain ⟨c0, c1⟩ := lincells (x := ⟨⟨mm, code⟩, ao, cap⟩) n1
  have HL := Lib.hid (hL.below b1)
  have H := Lib.hid (hl.below b1)
  have B1 := Lib.hid b1
  have HD := Lib.hid hD
  have hmx := hl.mx
  unfold maxLen at hmx
  simp only at c0 c1
  clear s1 n1 b1 hL hl hD hk
  go_enter Tryd.func35, Tryd.ntmps35
  go_upto_region 1 with fail
  rw [← e1, HD.out]
  clear e1
  go_wp2_with fail
  refine (HC.out w1).mono ?_
  rintro r w4 ⟨rfl, rfl⟩
  by_cases hX : X = 0
  · subst hX
    have hR := HE2.out rfl
    subst hR
    clear HE1 HE2 HX5 HC
    go_wp2_with fail
    refine (HCC.out w1 H.out HL.out).mono ?_
    rintro r w4 ⟨rfl, h4⟩
    have B4 := Lib.hid (below_on B1.out h4)
    clear h4
    go_wp2
    go_ret2
    exact ⟨rfl, B4.out⟩
  · have hX' : (X != 0) = true := by simp [hX]
    have hR := HE1.out hX
    have h5 := HX5.out hX
    subst hR h5
    clear HE1 HE2 HX5 HC hX
    go_wp2
    go_ret2
    exact ⟨rfl, B1.out⟩

set_option maxRecDepth 100000 in
set_option maxHeartbeats 2000000 in
theorem eacht_walk (ao : Option Addr) (cap : Nat) (l : List TskV) (most : Nat) (X Y Z : Int) (w : World) (hl : SeenT w ao cap l) (hL : IsL w) (hm : most ≤ 1000)
    (HK : Hid (∀ x ∈ l, ∀ e ∈ x.t.code, e.k < 4294967296)) (HX1 : Hid (most < l.length → X = 4 ∧ Y = 0 ∧ Z = 0)) (HX2 : Hid (l.length ≤ most → (∀ x ∈ l, (taskE x.t).1 = 0) → X = 0 ∧ Y = 0 ∧ Z = 0))
    (HX3 : Hid (l.length ≤ most → ∀ k (hk : k < l.length), (∀ j (hj : j < k), (taskE (l[j]'(by omega)).t).1 = 0) → (taskE l[k].t).1 ≠ 0 → X = (taskE l[k].t).1 ∧ Y = (k : Int) ∧ Z = (taskE l[k].t).2)) :
    Calls Tryd.prog 32 #[.slice ao l.length cap, .int .i64 (most : Int), .func (.func 33) #[] #[]] w fun r w' => r = .returned (.tuple #[.int .i64 X, .int .i64 Y, .int .i64 Z]) ∧ Below w.heap.size w w' := by
  have HL := Lib.hid hL
  have H := Lib.hid hl
  have hmx := hl.row.mx
  unfold maxLen at hmx
  clear hl hL
  by_cases h6 : most < l.length
  · have d : decide ((most : Int) < (l.length : Int)) = true := by simp; omega
    obtain ⟨rfl, rfl, rfl⟩ := HX1.out h6
    clear HX2 HX3 HX1
    go_enter Tryd.func32, Tryd.ntmps32
    go_wp2
    go_ret3
    exact ⟨rfl, Below.refl _ _⟩
  · have d : decide ((most : Int) < (l.length : Int)) = false := by simp; omega
    have h7 : l.length ≤ most := by omega
    go_enter Tryd.func32, Tryd.ntmps32
    go_wp2_with fail
    go_loopw [19] (fun x wr => ∃ k : Nat, x = .int .i64 k ∧ k ≤ l.length ∧ Hid (Below w.heap.size w wr) ∧ Hid (∀ j (hj : j < k) (hj' : j < l.length), (taskE l[j].t).1 = 0)) (fun x _ => l.length - (intOf x).toNat)
    case atStart => exact ⟨0, rfl, Nat.zero_le _, Lib.hid (Below.refl _ _), Lib.hid (fun j hj => absurd hj (by omega))⟩
    case round =>
      obtain ⟨k, rfl, hk, B1, A1⟩ := hrel
      by_cases hlt : k < l.length
      · obtain ⟨b, off, rfl, -, a6, i6⟩ := (H.out.below B1.out).at k hlt
        have hkk := HK.out l[k] (List.getElem_mem hlt)
        have H3 := Lib.hid (fun hn => HX3.out h7 k hlt (fun j hj => A1.out j hj (by omega)) hn)
        have A2 : Hid ((taskE l[k].t).1 = 0 → ∀ j (hj : j < k + 1) (hj' : j < l.length), (taskE l[j].t).1 = 0) := Lib.hid (fun h j hj hj' => by
          by_cases e : j = k
          · subst e; exact h
          · exact A1.out j (by omega) hj')
        obtain ⟨w2, e2⟩ : ∃ w2, w2 = wr.alloc (tskO l[k]) := ⟨_, rfl⟩
        obtain ⟨s2, n2, b2⟩ := new_size e2
        have HC := Lib.hid (ctask_any l[k] w2 (i6.below b2) (HL.out.below (below_on B1.out b2)) hkk)
        generalize taskE l[k].t = E at *
        generalize l[k] = e at *
        obtain ⟨⟨lv, ot, pd, dl, mm, code⟩, ao', cap'⟩ := e
        obtain ⟨c0, c1, c2, c3, c4, c5⟩ := a6
        obtain ⟨d0, d1, d2, d3, d4, d5⟩ := tskcells n2
        unfold tskO at e2
        unfold tskV at HC
        simp only at *
        obtain ⟨D, hD⟩ : ∃ D, wr.heap.size = D := ⟨_, rfl⟩
        rw [hD] at d0 d1 d2 d3 d4 d5
        have HD := Lib.hid hD
        have B2 := Lib.hid (below_on B1.out b2)
        have hkI : (k : Int) < (l.length : Int) := by omega
        have hkO : (0 : Int) ≤ (k : Int) := by omega
        clear s2 n2 b2 hD hkk A1 B1 i6
        go_upto_region 6 with fail
        rw [← e2, HD.out]
        clear e2
        go_wp2_with fail
        refine HC.out.mono ?_
        rintro r w3 ⟨rfl, h3⟩
        have B3 := Lib.hid (below_on B2.out h3)
        clear h3 HC c0 d0 c1 d1 c2 d2 c3 d3 c4 d4 c5 d5
        obtain ⟨E1, E2⟩ := E
        simp only at *
        by_cases hE : E1 = 0
        · subst hE
          have A3 := Lib.hid (A2.out rfl)
          clear A2 H3
          go_wp2_with fail
          go_roundw
          case rel => exact ⟨k + 1, by go_num, hlt, B3, A3⟩
          case measure => simp [intOf]; omega
        · have hE' : (E1 != 0) = true := by simp [hE]
          obtain ⟨rfl, rfl, rfl⟩ := H3.out hE
          clear A2 H3 hE
          go_wp2
          go_ret3
          exact ⟨rfl, B3.out⟩
      · obtain rfl : k = l.length := by omega
        obtain ⟨rfl, rfl, rfl⟩ := HX2.out h7 (fun x hx => by
          obtain ⟨j, hj, rfl⟩ := List.getElem_of_mem hx
          exact A1.out j hj hj)
        clear HX1 HX2 HX3 A1
        go_wp2
        go_ret3
        exact ⟨rfl, B1.out⟩
theorem eacht_any (ao : Option Addr) (cap : Nat) (l : List TskV) (most : Nat) (w : World) (hl : SeenT w ao cap l) (hL : IsL w) (hm : most ≤ 1000) (hk : ∀ x ∈ l, ∀ e ∈ x.t.code, e.k < 4294967296) :
    Calls Tryd.prog 32 #[.slice ao l.length cap, .int .i64 (most : Int), .func (.func 33) #[] #[]] w fun r w' => r = .returned (.tuple #[.int .i64 (eachE most taskE (l.map (·.t))).1, .int .i64 (eachE most taskE (l.map (·.t))).2.1, .int .i64 (eachE most taskE (l.map (·.t))).2.2]) ∧ Below w.heap.size w w' := by
  refine eacht_walk ao cap l most _ _ _ w hl hL hm (Lib.hid hk) (Lib.hid fun h => ?_) (Lib.hid fun h h2 => ?_) (Lib.hid fun h k hk h1 h2 => ?_)
  · unfold eachE
    rw [if_pos (by simpa using h)]
    exact ⟨rfl, rfl, rfl⟩
  · rw [eachE_of (by simpa using h) (fun x hx => by obtain ⟨y, hy, rfl⟩ := List.mem_map.1 hx; exact h2 y hy)]
    exact ⟨rfl, rfl, rfl⟩
  · have e : eachE most taskE (l.map (·.t)) = ((taskE l[k].t).1, (k : Int), (taskE l[k].t).2) := by
      unfold eachE
      rw [if_neg (show ¬ most < (l.map (·.t)).length by simp; omega), firstE_hit (l.map (·.t)) 0 k (by simpa using hk) (fun j hj => by simpa using h1 j hj) (by simpa using h2)]
      simp
    rw [e]
    exact ⟨rfl, rfl, rfl⟩

set_option maxRecDepth 100000 in
set_option maxHeartbeats 2000000 in
theorem eachl_walk (ao : Option Addr) (cap : Nat) (l : List LinV) (most : Nat) (X Y Z : Int) (w : World) (hl : SeenLn w ao cap l) (hL : IsL w) (hm : most ≤ 1000)
    (HK : Hid (∀ x ∈ l, ∀ e ∈ x.t.code, e.k < 4294967296)) (HX1 : Hid (most < l.length → X = 4 ∧ Y = 0 ∧ Z = 0)) (HX2 : Hid (l.length ≤ most → (∀ x ∈ l, (lineE x.t).1 = 0) → X = 0 ∧ Y = 0 ∧ Z = 0))
    (HX3 : Hid (l.length ≤ most → ∀ k (hk : k < l.length), (∀ j (hj : j < k), (lineE (l[j]'(by omega)).t).1 = 0) → (lineE l[k].t).1 ≠ 0 → X = (lineE l[k].t).1 ∧ Y = (k : Int) ∧ Z = (lineE l[k].t).2)) :
    Calls Tryd.prog 34 #[.slice ao l.length cap, .int .i64 (most : Int), .func (.func 35) #[] #[]] w fun r w' => r = .returned (.tuple #[.int .i64 X, .int .i64 Y, .int .i64 Z]) ∧ Below w.heap.size w w' := by
  have HL := Lib.hid hL
  have H := Lib.hid hl
  have hmx := hl.row.mx
  unfold maxLen at hmx
  clear hl hL
  by_cases h6 : most < l.length
  · have d : decide ((most : Int) < (l.length : Int)) = true := by simp; omega
    obtain ⟨rfl, rfl, rfl⟩ := HX1.out h6
    clear HX2 HX3 HX1
    go_enter Tryd.func34, Tryd.ntmps34
    go_wp2
    go_ret3
    exact ⟨rfl, Below.refl _ _⟩
  · have d : decide ((most : Int) < (l.length : Int)) = false := by simp; omega
    have h7 : l.length ≤ most := by omega
    go_enter Tryd.func34, Tryd.ntmps34
    go_wp2_with fail
    go_loopw [19] (fun x wr => ∃ k : Nat, x = .int .i64 k ∧ k ≤ l.length ∧ Hid (Below w.heap.size w wr) ∧ Hid (∀ j (hj : j < k) (hj' : j < l.length), (lineE l[j].t).1 = 0)) (fun x _ => l.length - (intOf x).toNat)
    case atStart => exact ⟨0, rfl, Nat.zero_le _, Lib.hid (Below.refl _ _), Lib.hid (fun j hj => absurd hj (by omega))⟩
    case round =>
      obtain ⟨k, rfl, hk, B1, A1⟩ := hrel
      by_cases hlt : k < l.length
      · obtain ⟨b, off, rfl, -, a6, i6⟩ := (H.out.below B1.out).at k hlt
        have hkk := HK.out l[k] (List.getElem_mem hlt)
        have H3 := Lib.hid (fun hn => HX3.out h7 k hlt (fun j hj => A1.out j hj (by omega)) hn)
        have A2 : Hid ((lineE l[k].t).1 = 0 → ∀ j (hj : j < k + 1) (hj' : j < l.length), (lineE l[j].t).1 = 0) := Lib.hid (fun h j hj hj' => by
          by_cases e : j = k
          · subst e; exact h
          · exact A1.out j (by omega) hj')
        obtain ⟨w2, e2⟩ : ∃ w2, w2 = wr.alloc (linO l[k]) := ⟨_, rfl⟩
        obtain ⟨s2, n2, b2⟩ := new_size e2
        have HC := Lib.hid (cline_any l[k] w2 (i6.below b2) (HL.out.below (below_on B1.out b2)) hkk)
        generalize lineE l[k].t = E at *
        generalize l[k] = e at *
        obtain ⟨⟨mm, code⟩, ao', cap'⟩ := e
        obtain ⟨c0, c1⟩ := a6
        obtain ⟨d0, d1⟩ := lincells n2
        unfold linO at e2
        unfold linV at HC
        simp only at *
        obtain ⟨D, hD⟩ : ∃ D, wr.heap.size = D := ⟨_, rfl⟩
        rw [hD] at d0 d1
        have HD := Lib.hid hD
        have B2 := Lib.hid (below_on B1.out b2)
        have hkI : (k : Int) < (l.length : Int) := by omega
        have hkO : (0 : Int) ≤ (k : Int) := by omega
        clear s2 n2 b2 hD hkk A1 B1 i6
        go_upto_region 6 with fail
        rw [← e2, HD.out]
        clear e2
        go_wp2_with fail
        refine HC.out.mono ?_
        rintro r w3 ⟨rfl, h3⟩
        have B3 := Lib.hid (below_on B2.out h3)
        clear h3 HC c0 d0 c1 d1
        obtain ⟨E1, E2⟩ := E
        simp only at *
        by_cases hE : E1 = 0
        · subst hE
          have A3 := Lib.hid (A2.out rfl)
          clear A2 H3
          go_wp2_with fail
          go_roundw
          case rel => exact ⟨k + 1, by go_num, hlt, B3, A3⟩
          case measure => simp [intOf]; omega
        · have hE' : (E1 != 0) = true := by simp [hE]
          obtain ⟨rfl, rfl, rfl⟩ := H3.out hE
          clear A2 H3 hE
          go_wp2
          go_ret3
          exact ⟨rfl, B3.out⟩
      · obtain rfl : k = l.length := by omega
        obtain ⟨rfl, rfl, rfl⟩ := HX2.out h7 (fun x hx => by
          obtain ⟨j, hj, rfl⟩ := List.getElem_of_mem hx
          exact A1.out j hj hj)
        clear HX1 HX2 HX3 A1
        go_wp2
        go_ret3
        exact ⟨rfl, B1.out⟩
theorem eachl_any (ao : Option Addr) (cap : Nat) (l : List LinV) (most : Nat) (w : World) (hl : SeenLn w ao cap l) (hL : IsL w) (hm : most ≤ 1000) (hk : ∀ x ∈ l, ∀ e ∈ x.t.code, e.k < 4294967296) :
    Calls Tryd.prog 34 #[.slice ao l.length cap, .int .i64 (most : Int), .func (.func 35) #[] #[]] w fun r w' => r = .returned (.tuple #[.int .i64 (eachE most lineE (l.map (·.t))).1, .int .i64 (eachE most lineE (l.map (·.t))).2.1, .int .i64 (eachE most lineE (l.map (·.t))).2.2]) ∧ Below w.heap.size w w' := by
  refine eachl_walk ao cap l most _ _ _ w hl hL hm (Lib.hid hk) (Lib.hid fun h => ?_) (Lib.hid fun h h2 => ?_) (Lib.hid fun h k hk h1 h2 => ?_)
  · unfold eachE
    rw [if_pos (by simpa using h)]
    exact ⟨rfl, rfl, rfl⟩
  · rw [eachE_of (by simpa using h) (fun x hx => by obtain ⟨y, hy, rfl⟩ := List.mem_map.1 hx; exact h2 y hy)]
    exact ⟨rfl, rfl, rfl⟩
  · have e : eachE most lineE (l.map (·.t)) = ((lineE l[k].t).1, (k : Int), (lineE l[k].t).2) := by
      unfold eachE
      rw [if_neg (show ¬ most < (l.map (·.t)).length by simp; omega), firstE_hit (l.map (·.t)) 0 k (by simpa using hk) (fun j hj => by simpa using h1 j hj) (by simpa using h2)]
      simp
    rw [e]
    exact ⟨rfl, rfl, rfl⟩

end Go.Proofs.YtbhnehacgkhpbaaDoor
