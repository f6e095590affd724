/-
  Has a system more than some instructions and numbers in all (the statements' own bound), over this seat's translation. Conditions: a system in memory.
-/
import Derived.Test.YtbhnehacgkhpbaaDoorCfL
namespace Go.Proofs.YtbhnehacgkhpbaaDoor
open Go.RowKit
set_option linter.unusedVariables false
set_option linter.unusedSimpArgs false

noncomputable def propB (p : Prop) : Bool := @decide p (Classical.propDecidable _)
theorem propB_t {p : Prop} (h : p) : propB p = true := by unfold propB; simp [h]
theorem propB_f {p : Prop} (h : ¬ p) : propB p = false := by unfold propB; simp [h]
theorem propB_of {p : Prop} (h : propB p = true) : p := by unfold propB at h; simpa using h
theorem propB_not {p : Prop} (h : propB p = false) : ¬ p := by unfold propB at h; simpa using h

def sumK (f : Nat → Nat) : Nat → Nat
  | 0 => 0
  | k + 1 => sumK f k + f k
theorem sumK_le {f : Nat → Nat} : ∀ (k : Nat), (∀ j, j < k → f j ≤ 300) → sumK f k ≤ 300 * k
  | 0, _ => by simp [sumK]
  | k + 1, h => by
    have := sumK_le k (fun j hj => h j (by omega))
    have := h k (by omega)
    simp only [sumK]; omega
def lenT (l : List TskV) (j : Nat) : Nat := ((l[j]?).map (fun t => t.t.code.length)).getD 0
def lenL (l : List LinV) (j : Nat) : Nat := ((l[j]?).map (fun t => t.t.code.length)).getD 0
theorem lenT_at (l : List TskV) (j : Nat) (h : j < l.length) : lenT l j = l[j].t.code.length := by unfold lenT; rw [List.getElem?_eq_getElem h]; rfl
theorem lenL_at (l : List LinV) (j : Nat) (h : j < l.length) : lenL l j = l[j].t.code.length := by unfold lenL; rw [List.getElem?_eq_getElem h]; rfl

/-- More than the statements speak of. -/
def GreatP (x : CfgV) : Prop :=
  70 < x.tasks.length ∨ 20 < x.lines.length ∨ 40 < x.sems.length ∨ 40 < x.queues.length ∨ 40 < x.timers.length ∨
  (∃ j, j < x.tasks.length ∧ 300 < lenT x.tasks j) ∨ (∃ j, j < x.lines.length ∧ 300 < lenL x.lines j) ∨ 2000 < sumK (lenT x.tasks) x.tasks.length + sumK (lenL x.lines) x.lines.length
noncomputable def greatB (x : CfgV) : Bool := propB (GreatP x)
/-- No more than so. -/
structure Small (x : CfgV) : Prop where
  t : x.tasks.length ≤ 70
  l : x.lines.length ≤ 20
  s : x.sems.length ≤ 40
  q : x.queues.length ≤ 40
  m : x.timers.length ≤ 40
  tc : ∀ e ∈ x.tasks, e.t.code.length ≤ 300
  lc : ∀ e ∈ x.lines, e.t.code.length ≤ 300
theorem small_of {x : CfgV} (h : greatB x = false) : Small x := by
  have h := propB_not h
  unfold GreatP at h
  simp only [not_or, not_exists, not_and] at h
  obtain ⟨h1, h2, h3, h4, h5, h6, h7, -⟩ := h
  refine ⟨by omega, by omega, by omega, by omega, by omega, fun e he => ?_, fun e he => ?_⟩
  · obtain ⟨j, hj, rfl⟩ := List.getElem_of_mem he
    have := h6 j hj
    rw [lenT_at _ j hj] at this; omega
  · obtain ⟨j, hj, rfl⟩ := List.getElem_of_mem he
    have := h7 j hj
    rw [lenL_at _ j hj] at this; omega

set_option maxRecDepth 100000 in
set_option maxHeartbeats 4000000 in
theorem great_walk (x : CfgV) (w : World) (hs : SeenC w x) (z : Bool)
    (Z1 : Hid (70 < x.tasks.length → z = true)) (Z2 : Hid (20 < x.lines.length → z = true)) (Z3 : Hid (40 < x.sems.length → z = true)) (Z4 : Hid (40 < x.queues.length → z = true)) (Z5 : Hid (40 < x.timers.length → z = true))
    (Z6 : Hid (∀ j, j < x.tasks.length → 300 < lenT x.tasks j → z = true)) (Z7 : Hid (∀ j, j < x.lines.length → 300 < lenL x.lines j → z = true)) (Z8 : Hid (2000 < sumK (lenT x.tasks) x.tasks.length + sumK (lenL x.lines) x.lines.length → z = true))
    (Z9 : Hid (x.tasks.length ≤ 70 → x.lines.length ≤ 20 → x.sems.length ≤ 40 → x.queues.length ≤ 40 → x.timers.length ≤ 40 → (∀ j, j < x.tasks.length → lenT x.tasks j ≤ 300) → (∀ j, j < x.lines.length → lenL x.lines j ≤ 300) → sumK (lenT x.tasks) x.tasks.length + sumK (lenL x.lines) x.lines.length ≤ 2000 → z = false)) :
    Calls Tryd.prog 9 #[cfV x] w fun r w' => r = .returned (.bool z) ∧ Below w.heap.size w w' := by
  obtain ⟨w1, e1⟩ : ∃ w1, w1 = w.alloc (cfO x) := ⟨_, rfl⟩
  obtain ⟨s1, n1, b1⟩ := new_size e1
  obtain ⟨D, hD⟩ : ∃ D, w.heap.size = D := ⟨_, rfl⟩
  rw [hD] at n1
  obtain ⟨c0, c1, c2, c3, c4, c5, c6, c7, c8, c9, c10, c11⟩ := cfcells n1
  have H1 := Lib.hid (hs.below b1)
  have B1 := Lib.hid b1
  have HD := Lib.hid hD
  have m1 := hs.ls.row.mx
  have m2 := hs.ss.mx
  have m3 := hs.ts.row.mx
  have m4 := hs.qs.mx
  have m5 := hs.ms.mx
  unfold maxLen at m1 m2 m3 m4 m5
  unfold cfV cfCells
  unfold cfO cfCells at e1
  obtain ⟨tao, tcap, tasks, lao, lcap, lines, mtx, sao, scap, sems, qao, qcap, queues, mao, mcap, timers, table, mask, filter, charge, cycle, count⟩ := x
  simp only at *
  clear s1 n1 b1 hD hs
  go_enter Tryd.func9, Tryd.ntmps9
  go_upto_region 2 with fail
  rw [← e1, HD.out]
  clear e1
  by_cases h1 : 70 < tasks.length
  case pos =>
    have d1 : decide ((70 : Int) < (tasks.length : Int)) = true := by simp; omega
    obtain rfl := Z1.out h1
    clear Z1 Z2 Z3 Z4 Z5 Z6 Z7 Z8 Z9 h1
    go_wp2
    go_ret
    exact ⟨rfl, B1.out⟩
  have d1 : decide ((70 : Int) < (tasks.length : Int)) = false := by simp; omega
  by_cases h2 : 20 < lines.length
  case pos =>
    have d2 : decide ((20 : Int) < (lines.length : Int)) = true := by simp; omega
    obtain rfl := Z2.out h2
    clear Z1 Z2 Z3 Z4 Z5 Z6 Z7 Z8 Z9 h1 h2
    go_wp2
    go_ret
    exact ⟨rfl, B1.out⟩
  have d2 : decide ((20 : Int) < (lines.length : Int)) = false := by simp; omega
  by_cases h3 : 40 < sems.length
  case pos =>
    have d3 : decide ((40 : Int) < (sems.length : Int)) = true := by simp; omega
    obtain rfl := Z3.out h3
    clear Z1 Z2 Z3 Z4 Z5 Z6 Z7 Z8 Z9 h1 h2 h3
    go_wp2
    go_ret
    exact ⟨rfl, B1.out⟩
  have d3 : decide ((40 : Int) < (sems.length : Int)) = false := by simp; omega
  by_cases h4 : 40 < queues.length
  case pos =>
    have d4 : decide ((40 : Int) < (queues.length : Int)) = true := by simp; omega
    obtain rfl := Z4.out h4
    clear Z1 Z2 Z3 Z4 Z5 Z6 Z7 Z8 Z9 h1 h2 h3 h4
    go_wp2
    go_ret
    exact ⟨rfl, B1.out⟩
  have d4 : decide ((40 : Int) < (queues.length : Int)) = false := by simp; omega
  by_cases h5 : 40 < timers.length
  case pos =>
    have d5 : decide ((40 : Int) < (timers.length : Int)) = true := by simp; omega
    obtain rfl := Z5.out h5
    clear Z1 Z2 Z3 Z4 Z5 Z6 Z7 Z8 Z9 h1 h2 h3 h4 h5
    go_wp2
    go_ret
    exact ⟨rfl, B1.out⟩
  have d5 : decide ((40 : Int) < (timers.length : Int)) = false := by simp; omega
  have g1 : tasks.length ≤ 70 := by omega
  have g2 : lines.length ≤ 20 := by omega
  have HG := Lib.hid (show sems.length ≤ 40 ∧ queues.length ≤ 40 ∧ timers.length ≤ 40 by omega)
  clear h1 h2 h3 h4 h5 Z1 Z2 Z3 Z4 Z5
  go_wp2_with fail
  clear d1 d2 d3 d4 d5
  go_loopw [3, 4] (fun x y wr => ∃ (k : Nat), x = .int .i64 (sumK (lenT tasks) k : Nat) ∧ y = .int .i64 k ∧ k ≤ tasks.length ∧ Hid (wr = w1) ∧ Hid (∀ j, j < k → lenT tasks j ≤ 300)) (fun _ y _ => tasks.length - (intOf y).toNat)
  case atStart => exact ⟨0, rfl, rfl, Nat.zero_le _, Lib.hid rfl, Lib.hid (fun j hj => absurd hj (by omega))⟩
  case round =>
  obtain ⟨k, rfl, rfl, hk, hww, A1⟩ := hrel
  have hw2 := hww.out
  obtain rfl := hw2.symm
  clear hww hw2
  have hsum := sumK_le k A1.out
  by_cases hlt : k < tasks.length
  · obtain ⟨b, off, rfl, -, a6, -⟩ := H1.out.ts.at k hlt
    have hlen := lenT_at tasks k hlt
    have T6 := Lib.hid (Z6.out k hlt)
    have HS : Hid (sumK (lenT tasks) (k + 1) = sumK (lenT tasks) k + lenT tasks k) := Lib.hid rfl
    have A2 : Hid (lenT tasks k ≤ 300 → ∀ j, j < k + 1 → lenT tasks j ≤ 300) := Lib.hid (fun h j hj => by
      by_cases e : j = k
      · subst e; exact h
      · exact A1.out j (by omega))
    rw [hlen] at T6 HS A2
    generalize sumK (lenT tasks) k = SK at *
    generalize tasks[k] = e at *
    obtain ⟨⟨lv, ot, pd, dl, mm, code⟩, ao', cap'⟩ := e
    obtain ⟨t0, t1, t2, t3, t4, t5⟩ := a6
    simp only at *
    have hkI : (k : Int) < (tasks.length : Int) := by omega
    have hkO : (0 : Int) ≤ (k : Int) := by omega
    clear hlen A1
    by_cases hc : 300 < code.length
    · have dc : decide ((300 : Int) < (code.length : Int)) = true := by simp; omega
      obtain rfl := T6.out hc
      clear T6 HS A2 hc hsum Z6 Z7 Z8 Z9
      go_wp2
      go_ret
      exact ⟨rfl, B1.out⟩
    · have dc : decide ((300 : Int) < (code.length : Int)) = false := by simp; omega
      have hc' : code.length ≤ 300 := by omega
      have A3 := Lib.hid (A2.out (by omega))
      clear T6 A2 hc Z6 Z7 Z8 Z9
      go_wp2_with fail
      go_roundw
      case rel => exact ⟨k + 1, by rw [HS.out]; go_num, by go_num, hlt, Lib.hid trivial, A3⟩
      case measure => simp [intOf]; omega
  obtain rfl : k = tasks.length := by omega
  have A0 := A1
  clear A1 hlt hk Z6
  generalize hS0 : sumK (lenT tasks) tasks.length = S0 at *
  clear hS0
  go_wp2_with fail
  go_loopw [3, 5] (fun x y wr => ∃ (k : Nat), x = .int .i64 ((S0 + sumK (lenL lines) k : Nat) : Int) ∧ y = .int .i64 k ∧ k ≤ lines.length ∧ Hid (wr = w1) ∧ Hid (∀ j, j < k → lenL lines j ≤ 300)) (fun _ y _ => lines.length - (intOf y).toNat)
  case atStart => exact ⟨0, rfl, rfl, Nat.zero_le _, Lib.hid rfl, Lib.hid (fun j hj => absurd hj (by omega))⟩
  case round =>
  obtain ⟨k, rfl, rfl, hk, hww, A1⟩ := hrel
  have hw2 := hww.out
  obtain rfl := hw2.symm
  clear hww hw2
  have hsum2 := sumK_le k A1.out
  by_cases hlt : k < lines.length
  · obtain ⟨b, off, rfl, -, a6, -⟩ := H1.out.ls.at k hlt
    have hlen := lenL_at lines k hlt
    have T6 := Lib.hid (Z7.out k hlt)
    have HS : Hid (S0 + sumK (lenL lines) (k + 1) = S0 + sumK (lenL lines) k + lenL lines k) := Lib.hid (Nat.add_assoc _ _ _).symm
    have A2 : Hid (lenL lines k ≤ 300 → ∀ j, j < k + 1 → lenL lines j ≤ 300) := Lib.hid (fun h j hj => by
      by_cases e : j = k
      · subst e; exact h
      · exact A1.out j (by omega))
    rw [hlen] at T6 HS A2
    have hs3 : S0 + sumK (lenL lines) k ≤ 100000 := by omega
    generalize S0 + sumK (lenL lines) k = SK at *
    generalize lines[k] = e at *
    obtain ⟨⟨mm, code⟩, ao', cap'⟩ := e
    obtain ⟨t0, t1⟩ := a6
    simp only at *
    have hkI : (k : Int) < (lines.length : Int) := by omega
    have hkO : (0 : Int) ≤ (k : Int) := by omega
    clear hlen A1 hsum2
    by_cases hc : 300 < code.length
    · have dc : decide ((300 : Int) < (code.length : Int)) = true := by simp; omega
      obtain rfl := T6.out hc
      clear T6 HS A2 hc Z7 Z8 Z9
      go_wp2
      go_ret
      exact ⟨rfl, B1.out⟩
    · have dc : decide ((300 : Int) < (code.length : Int)) = false := by simp; omega
      have hc' : code.length ≤ 300 := by omega
      have A3 := Lib.hid (A2.out (by omega))
      clear T6 A2 hc Z7 Z8 Z9
      go_wp2_with fail
      go_roundw
      case rel => exact ⟨k + 1, by rw [HS.out]; go_num, by go_num, hlt, Lib.hid trivial, A3⟩
      case measure => simp [intOf]; omega
  obtain rfl : k = lines.length := by omega
  obtain ⟨u3, u4, u5⟩ := HG.out
  by_cases h2 : 2000 < S0 + sumK (lenL lines) lines.length
  · obtain rfl := Z8.out h2
    generalize S0 + sumK (lenL lines) lines.length = SK at *
    have dz : decide ((2000 : Int) < (SK : Int)) = true := by simp; omega
    clear Z7 Z8 Z9 A0 A1 h2
    go_wp2
    go_ret
    exact ⟨rfl, B1.out⟩
  · obtain rfl := Z9.out g1 g2 u3 u4 u5 A0.out A1.out (by omega)
    generalize S0 + sumK (lenL lines) lines.length = SK at *
    have dz : decide ((2000 : Int) < (SK : Int)) = false := by simp; omega
    clear Z7 Z8 Z9 A0 A1 h2
    go_wp2
    go_ret
    exact ⟨rfl, B1.out⟩
theorem great_cf_any (x : CfgV) (w : World) (hs : SeenC w x) : Calls Tryd.prog 9 #[cfV x] w fun r w' => r = .returned (.bool (greatB x)) ∧ Below w.heap.size w w' :=
  great_walk x w hs _ (Lib.hid fun h => propB_t (.inl h)) (Lib.hid fun h => propB_t (.inr (.inl h))) (Lib.hid fun h => propB_t (.inr (.inr (.inl h)))) (Lib.hid fun h => propB_t (.inr (.inr (.inr (.inl h))))) (Lib.hid fun h => propB_t (.inr (.inr (.inr (.inr (.inl h))))))
    (Lib.hid fun j h1 h2 => propB_t (.inr (.inr (.inr (.inr (.inr (.inl ⟨j, h1, h2⟩))))))) (Lib.hid fun j h1 h2 => propB_t (.inr (.inr (.inr (.inr (.inr (.inr (.inl ⟨j, h1, h2⟩)))))))) (Lib.hid fun h => propB_t (.inr (.inr (.inr (.inr (.inr (.inr (.inr h))))))))
    (Lib.hid fun h1 h2 h3 h4 h5 h6 h7 h8 => propB_f (by
      rintro (h | h | h | h | h | ⟨j, h, h'⟩ | ⟨j, h, h'⟩ | h)
      · omega
      · omega
      · omega
      · omega
      · omega
      · have := h6 j h; omega
      · have := h7 j h; omega
      · omega))

end Go.Proofs.YtbhnehacgkhpbaaDoor
