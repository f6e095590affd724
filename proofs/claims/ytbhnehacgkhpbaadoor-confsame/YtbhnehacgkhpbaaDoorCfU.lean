/-
  Are two systems the same, by the document: over this seat's translation. Conditions: what is compared lies in memory.
-/
import Derived.Test.YtbhnehacgkhpbaaDoorCfT
namespace Go.Proofs.YtbhnehacgkhpbaaDoor
open Go Go.RowKit
set_option linter.unusedVariables false
set_option linter.unusedSimpArgs false

/-- When two systems are the same, in steps. -/
structure SameR (x y : CfgV) (z : Bool) : Prop where
  l1 : x.tasks.length ≠ y.tasks.length → z = false
  l2 : x.lines.length ≠ y.lines.length → z = false
  t : ∀ k (g1 : k < x.tasks.length) (g2 : k < y.tasks.length), x.tasks[k].t ≠ y.tasks[k].t → z = false
  l : ∀ k (g1 : k < x.lines.length) (g2 : k < y.lines.length), x.lines[k].t ≠ y.lines[k].t → z = false
  s : eqB x.sems y.sems = false → z = false
  q : eqB x.queues y.queues = false → z = false
  m : eqB x.timers y.timers = false → z = false
  n : ¬ numsP x y → z = false
  ok : x.tasks.length = y.tasks.length → (∀ k (g1 : k < x.tasks.length) (g2 : k < y.tasks.length), x.tasks[k].t = y.tasks[k].t) → x.lines.length = y.lines.length → (∀ k (g1 : k < x.lines.length) (g2 : k < y.lines.length), x.lines[k].t = y.lines[k].t) →
    eqB x.sems y.sems = true → eqB x.queues y.queues = true → eqB x.timers y.timers = true → numsP x y → z = true
theorem sameR (x y : CfgV) : SameR x y (eqB x.c y.c) := by
  have nb : ∀ {p : Prop}, (x.c = y.c → p) → ¬ p → eqB x.c y.c = false := fun h1 h2 => eqB_ne (fun e => h2 (h1 e))
  have neg : ∀ {α : Type} {a b : α}, eqB a b = false → a ≠ b := fun h e => by rw [eqB_of e] at h; cases h
  refine ⟨fun h => nb (fun e => ?_) h, fun h => nb (fun e => ?_) h, fun k g1 g2 h => nb (fun e => ?_) h, fun k g1 g2 h => nb (fun e => ?_) h, fun h => nb (fun e => (cfg_nums e).2.2.2.1) (neg h), fun h => nb (fun e => (cfg_nums e).2.2.2.2.1) (neg h), fun h => nb (fun e => (cfg_nums e).2.2.2.2.2) (neg h), fun h => nb (fun e => (cfg_nums e).1) h,
    fun h1 h2 h3 h4 h5 h6 h7 h8 => eqB_of (same_cfg h8 ?_ ?_ (eqB_iff.1 h5) (eqB_iff.1 h6) (eqB_iff.1 h7))⟩
  · have := congrArg List.length (cfg_nums e).2.1; simpa using this
  · have := congrArg List.length (cfg_nums e).2.2.1; simpa using this
  · have := congrArg (·[k]?) (cfg_nums e).2.1
    simpa [g1, g2] using this
  · have := congrArg (·[k]?) (cfg_nums e).2.2.1
    simpa [g1, g2] using this
  · exact list_eq_all (by simpa using h1) (fun j g1 g2 => by simpa using h2 j (by simpa using g1) (by simpa using g2))
  · exact list_eq_all (by simpa using h3) (fun j g1 g2 => by simpa using h4 j (by simpa using g1) (by simpa using g2))

set_option maxRecDepth 100000 in
set_option maxHeartbeats 16000000 in
theorem rsame_walk (x y : CfgV) (z : Bool) (w : World) (hx : SeenC w x) (hy : SeenC w y) (HR : Hid (SameR x y z)) : Calls Tryd.prog 13 #[cfV x, cfV y] w fun r w' => r = .returned (.bool z) ∧ Below w.heap.size w w' := by
  obtain ⟨w1, e1⟩ : ∃ w1, w1 = w.alloc (cfO x) := ⟨_, rfl⟩
  obtain ⟨s1, n1, b1⟩ := new_size e1
  obtain ⟨w2, e2⟩ : ∃ w2, w2 = w1.alloc (cfO y) := ⟨_, rfl⟩
  obtain ⟨s2, n2, b2⟩ := new_size e2
  have n1' := blk_on b2 n1
  obtain ⟨D, hD⟩ : ∃ D, w.heap.size = D := ⟨_, rfl⟩
  obtain ⟨E, hE⟩ : ∃ E, D + 1 = E := ⟨_, rfl⟩
  rw [hD] at n1'
  rw [s1, hD, hE] at n2
  have B2 := Lib.hid (below_on b1 b2)
  have HD := Lib.hid hD
  have HE := Lib.hid hE
  have HC : Hid (∀ wr, Below w2.heap.size w2 wr → AtC wr D x) := Lib.hid (fun wr hb => cfcells (blk_on hb n1'))
  have HC' : Hid (∀ wr, Below w2.heap.size w2 wr → AtC wr E y) := Lib.hid (fun wr hb => cfcells (blk_on hb n2))
  have H2 := Lib.hid (hx.below (below_on b1 b2))
  have K2 := Lib.hid (hy.below (below_on b1 b2))
  have m1 := hx.ls.row.mx
  have m3 := hx.ts.row.mx
  have m1' := hy.ls.row.mx
  have m3' := hy.ts.row.mx
  unfold maxLen at m1 m3 m1' m3'
  have Y3 := Lib.hid (fun wr (hb : Below w2.heap.size w2 wr) => reqZ_any x.sao y.sao x.scap y.scap x.sems y.sems wr (H2.out.ss.below hb) (K2.out.ss.below hb))
  have Y4 := Lib.hid (fun wr (hb : Below w2.heap.size w2 wr) => reqZ_any x.qao y.qao x.qcap y.qcap x.queues y.queues wr (H2.out.qs.below hb) (K2.out.qs.below hb))
  have Y5 := Lib.hid (fun wr (hb : Below w2.heap.size w2 wr) => reqZ_any x.mao y.mao x.mcap y.mcap x.timers y.timers wr (H2.out.ms.below hb) (K2.out.ms.below hb))
  have R1 := Lib.hid HR.out.l1
  have R2 := Lib.hid HR.out.l2
  have RT := Lib.hid HR.out.t
  have RL := Lib.hid HR.out.l
  have RS := Lib.hid HR.out.s
  have RQ := Lib.hid HR.out.q
  have RM := Lib.hid HR.out.m
  have RN := Lib.hid HR.out.n
  have RO := Lib.hid HR.out.ok
  generalize eqB x.sems y.sems = z3 at *
  generalize eqB x.queues y.queues = z4 at *
  generalize eqB x.timers y.timers = z5 at *
  obtain ⟨tao, tcap, tasks, lao, lcap, lines, mtx, sao, scap, sems, qao, qcap, queues, mao, mcap, timers, table, mask, filter, charge, cycle, count⟩ := x
  obtain ⟨tao', tcap', tasks', lao', lcap', lines', mtx', sao', scap', sems', qao', qcap', queues', mao', mcap', timers', table', mask', filter', charge', cycle', count'⟩ := y
  unfold numsP at RN RO
  unfold cfO cfCells at e1 e2
  unfold cfV cfCells
  simp only at *
  clear s1 n1 b1 s2 n2 b2 n1' hD hE hx hy HR
  have BR : Hid (Below w2.heap.size w2 w2) := Lib.hid (Below.refl _ _)
  go_enter Tryd.func13, Tryd.ntmps13
  go_upto_region 1 with fail
  rw [← e1, HD.out, ← e2, HE.out]
  clear e1 e2
  obtain ⟨c0, c1, c2, c3, c4, c5, c6, c7, c8, c9, c10, c11⟩ := HC.out w2 BR.out
  obtain ⟨d0, d1, d2, d3, d4, d5, d6, d7, d8, d9, d10, d11⟩ := HC'.out w2 BR.out
  simp only at c0 c1 c2 c3 c4 c5 c6 c7 c8 c9 c10 c11 d0 d1 d2 d3 d4 d5 d6 d7 d8 d9 d10 d11
  by_cases hl1 : tasks.length = tasks'.length
  case neg =>
    have q1 : ((tasks.length : Int) != (tasks'.length : Int)) = true := by rw [bne_iff_ne]; omega
    obtain rfl := R1.out hl1
    clear R1 R2 RT RL RS RQ RM RN RO Y3 Y4 Y5 HC HC' hl1
    have BZ := Lib.hid (below_on B2.out BR.out)
    go_wp2_with fail
    go_ret
    exact ⟨rfl, BZ.out⟩
  have q1 : ((tasks.length : Int) != (tasks'.length : Int)) = false := by rw [hl1]; simp
  by_cases hl2 : lines.length = lines'.length
  case neg =>
    have q2 : ((lines.length : Int) != (lines'.length : Int)) = true := by rw [bne_iff_ne]; omega
    obtain rfl := R2.out hl2
    clear R1 R2 RT RL RS RQ RM RN RO Y3 Y4 Y5 HC HC' hl1 hl2
    have BZ := Lib.hid (below_on B2.out BR.out)
    go_wp2_with fail
    go_ret
    exact ⟨rfl, BZ.out⟩
  have q2 : ((lines.length : Int) != (lines'.length : Int)) = false := by rw [hl2]; simp
  have HL1 := Lib.hid hl1
  have HL2 := Lib.hid hl2
  clear hl1 hl2 R1 R2
  go_wp2_with fail
  clear q1 q2 c0 c1 c2 c3 c4 c5 c6 c7 c8 c9 c10 c11 d0 d1 d2 d3 d4 d5 d6 d7 d8 d9 d10 d11
  go_loopw [5] (fun x wr => ∃ (k : Nat), x = .int .i64 k ∧ k ≤ tasks.length ∧ Hid (Below w2.heap.size w2 wr) ∧ Hid (∀ j, j < k → ∀ (g1 : j < tasks.length) (g2 : j < tasks'.length), tasks[j].t = tasks'[j].t)) (fun x _ => tasks.length - (intOf x).toNat)
  case atStart => exact ⟨0, rfl, Nat.zero_le _, BR, Lib.hid (fun j hj => absurd hj (by omega))⟩
  clear BR
  case round =>
  obtain ⟨k, rfl, hk, B1, A1⟩ := hrel
  obtain ⟨c0, c1, c2, c3, c4, c5, c6, c7, c8, c9, c10, c11⟩ := HC.out wr B1.out
  obtain ⟨d0, d1, d2, d3, d4, d5, d6, d7, d8, d9, d10, d11⟩ := HC'.out wr B1.out
  simp only at c0 c1 c2 c3 c4 c5 c6 c7 c8 c9 c10 c11 d0 d1 d2 d3 d4 d5 d6 d7 d8 d9 d10 d11
  by_cases hlt : k < tasks.length
  · have hlt2 : k < tasks'.length := by have := HL1.out; omega
    obtain ⟨b, off, rfl, -, a6, i6⟩ := (H2.out.ts.below B1.out).at k hlt
    obtain ⟨b', off', rfl, -, b6, j6⟩ := (K2.out.ts.below B1.out).at k hlt2
    have N2 := Lib.hid (RT.out k hlt hlt2)
    have A2 : Hid (tasks[k].t = tasks'[k].t → ∀ j, j < k + 1 → ∀ (g1 : j < tasks.length) (g2 : j < tasks'.length), tasks[j].t = tasks'[j].t) := Lib.hid (fun h j hj g1 g2 => by
      by_cases e : j = k
      · subst e; exact h
      · exact A1.out j (by omega) g1 g2)
    obtain ⟨w3, e3⟩ : ∃ w3, w3 = wr.alloc (tskO tasks[k]) := ⟨_, rfl⟩
    obtain ⟨s3, n3, b3⟩ := new_size e3
    obtain ⟨w4, e4⟩ : ∃ w4, w4 = w3.alloc (tskO tasks'[k]) := ⟨_, rfl⟩
    obtain ⟨s4, n4, b4⟩ := new_size e4
    have b6' := b6.below b3
    have n3' := blk_on b4 n3
    have HCC := Lib.hid (reqI_any tasks[k].ao tasks'[k].ao tasks[k].cap tasks'[k].cap tasks[k].t.code tasks'[k].t.code w4 (i6.below (below_on b3 b4)) (j6.below (below_on b3 b4)))
    have B3 := Lib.hid (below_on B1.out b3)
    have B4 := Lib.hid (below_on B1.out (below_on b3 b4))
    obtain ⟨F, hF⟩ : ∃ F, wr.heap.size = F := ⟨_, rfl⟩
    obtain ⟨G, hG⟩ : ∃ G, w3.heap.size = G := ⟨_, rfl⟩
    rw [hF] at n3'
    rw [hG] at n4
    generalize tasks[k] = e at *
    generalize tasks'[k] = f at *
    obtain ⟨u0, u1, u2, u3, u4, u5⟩ := tskcells n3'
    obtain ⟨v0, v1, v2, v3, v4, v5⟩ := tskcells n4
    obtain ⟨t0, t1, t2, t3, t4, t5⟩ := a6
    obtain ⟨s0, s1, s2, s3', s4', s5⟩ := b6'
    have HF := Lib.hid hF
    have HG := Lib.hid hG
    obtain ⟨⟨lv, ot, pd, dl, mm, code⟩, ao, cap⟩ := e
    obtain ⟨⟨lv', ot', pd', dl', mm', code'⟩, ao', cap'⟩ := f
    unfold tskO at e3 e4
    simp only at u0 u1 u2 u3 u4 u5 v0 v1 v2 v3 v4 v5 t0 t1 t2 t3 t4 t5 s0 s1 s2 s3' s4' s5 e3 e4 HCC N2 A2
    have ECt : Hid (eqB code code' = true → code = code') := Lib.hid eqB_iff.1
    have ECf : Hid (eqB code code' = false → code ≠ code') := Lib.hid (fun h e => by rw [eqB_of e] at h; cases h)
    generalize eqB code code' = zc at *
    have hkO : (0 : Int) ≤ (k : Int) := Int.natCast_nonneg _
    have hkI : (k : Int) < (tasks.length : Int) := by omega
    have hkJ : (k : Int) < (tasks'.length : Int) := by omega
    clear A1 RT RL RS RQ RM RN RO Y3 Y4 Y5 s3 n3 b3 s4 n4 b4 b6 n3' i6 j6 hF hG
    go_upto_region 7 with fail
    rw [← e3, HF.out]
    clear e3 t0 t1 t2 t3 t4 t5 c0 c1 c2 c3 c4 c5 c6 c7 c8 c9 c10 c11 d0 d1 d2 d3 d4 d5 d6 d7 d8 d9 d10 d11
    obtain ⟨c0, c1, c2, c3, c4, c5, c6, c7, c8, c9, c10, c11⟩ := HC.out w3 B3.out
    obtain ⟨d0, d1, d2, d3, d4, d5, d6, d7, d8, d9, d10, d11⟩ := HC'.out w3 B3.out
    simp only at c0 c1 c2 c3 c4 c5 c6 c7 c8 c9 c10 c11 d0 d1 d2 d3 d4 d5 d6 d7 d8 d9 d10 d11
    go_upto_region 8 with fail
    rw [← e4, HG.out]
    clear e4 s0 s1 s2 s3' s4' s5 c0 c1 c2 c3 c4 c5 c6 c7 c8 c9 c10 c11 d0 d1 d2 d3 d4 d5 d6 d7 d8 d9 d10 d11 HC HC'
    by_cases h0 : lv = lv'
    case neg =>
      have q0 : (lv != lv') = true := by simpa using h0
      obtain rfl := N2.out (fun e => h0 (by simp only [Tsk.mk.injEq] at e; exact e.1))
      clear N2 A2 HCC ECt ECf h0
      have BZ := Lib.hid (below_on B2.out B4.out)
      go_wp2_with fail
      go_ret
      exact ⟨rfl, BZ.out⟩
    subst h0
    by_cases h1 : ot = ot'
    case neg =>
      have q1 : (ot != ot') = true := by simpa using h1
      obtain rfl := N2.out (fun e => h1 (by simp only [Tsk.mk.injEq] at e; exact e.2.1))
      clear N2 A2 HCC ECt ECf h1
      have BZ := Lib.hid (below_on B2.out B4.out)
      go_wp2_with fail
      go_ret
      exact ⟨rfl, BZ.out⟩
    subst h1
    by_cases h2 : pd = pd'
    case neg =>
      have q2 : (pd != pd') = true := by simpa using h2
      obtain rfl := N2.out (fun e => h2 (by simp only [Tsk.mk.injEq] at e; exact e.2.2.1))
      clear N2 A2 HCC ECt ECf h2
      have BZ := Lib.hid (below_on B2.out B4.out)
      go_wp2_with fail
      go_ret
      exact ⟨rfl, BZ.out⟩
    subst h2
    by_cases h3 : dl = dl'
    case neg =>
      have q3 : (dl != dl') = true := by simpa using h3
      obtain rfl := N2.out (fun e => h3 (by simp only [Tsk.mk.injEq] at e; exact e.2.2.2.1))
      clear N2 A2 HCC ECt ECf h3
      have BZ := Lib.hid (below_on B2.out B4.out)
      go_wp2_with fail
      go_ret
      exact ⟨rfl, BZ.out⟩
    subst h3
    by_cases h4 : mm = mm'
    case neg =>
      have q4 : (mm != mm') = true := by simpa using h4
      obtain rfl := N2.out (fun e => h4 (by simp only [Tsk.mk.injEq] at e; exact e.2.2.2.2.1))
      clear N2 A2 HCC ECt ECf h4
      have BZ := Lib.hid (below_on B2.out B4.out)
      go_wp2_with fail
      go_ret
      exact ⟨rfl, BZ.out⟩
    subst h4
    go_wp2_with fail
    refine HCC.out.mono ?_
    rintro r w5 ⟨rfl, q, rfl⟩
    have B5 : Hid (Below w2.heap.size w2 (w4.drewN q)) := Lib.hid (below_drewN B4.out q)
    clear HCC
    cases zc
    case false =>
      obtain rfl := N2.out (fun e => ECf.out rfl (by simp only [Tsk.mk.injEq] at e; exact e.2.2.2.2.2))
      clear N2 A2 ECt ECf
      have BZ := Lib.hid (below_on B2.out B5.out)
      go_wp2_with fail
      go_ret
      exact ⟨rfl, BZ.out⟩
    have hcc := ECt.out rfl
    subst hcc
    have A3 := Lib.hid (A2.out rfl)
    clear N2 A2 ECt ECf u0 u1 u2 u3 u4 u5 v0 v1 v2 v3 v4 v5
    go_wp2_with fail
    go_roundw
    case rel => exact ⟨k + 1, by go_num, hlt, B5, A3⟩
    case measure => simp [intOf]; omega
  obtain rfl : k = tasks.length := by omega
  have AT := Lib.hid (fun k g1 g2 => A1.out k g1 g1 g2)
  clear A1 RT hlt hk
  go_wp2_with fail
  go_loopw [8] (fun x wr => ∃ (k : Nat), x = .int .i64 k ∧ k ≤ lines.length ∧ Hid (Below w2.heap.size w2 wr) ∧ Hid (∀ j, j < k → ∀ (g1 : j < lines.length) (g2 : j < lines'.length), lines[j].t = lines'[j].t)) (fun x _ => lines.length - (intOf x).toNat)
  case atStart => exact ⟨0, rfl, Nat.zero_le _, B1, Lib.hid (fun j hj => absurd hj (by omega))⟩
  clear B1 c0 c1 c2 c3 c4 c5 c6 c7 c8 c9 c10 c11 d0 d1 d2 d3 d4 d5 d6 d7 d8 d9 d10 d11
  case round =>
  obtain ⟨k, rfl, hk, B1, A1⟩ := hrel
  obtain ⟨c0, c1, c2, c3, c4, c5, c6, c7, c8, c9, c10, c11⟩ := HC.out wr B1.out
  obtain ⟨d0, d1, d2, d3, d4, d5, d6, d7, d8, d9, d10, d11⟩ := HC'.out wr B1.out
  simp only at c0 c1 c2 c3 c4 c5 c6 c7 c8 c9 c10 c11 d0 d1 d2 d3 d4 d5 d6 d7 d8 d9 d10 d11
  by_cases hlt : k < lines.length
  · have hlt2 : k < lines'.length := by have := HL2.out; omega
    obtain ⟨b, off, rfl, -, a6, i6⟩ := (H2.out.ls.below B1.out).at k hlt
    obtain ⟨b', off', rfl, -, b6, j6⟩ := (K2.out.ls.below B1.out).at k hlt2
    have N2 := Lib.hid (RL.out k hlt hlt2)
    have A2 : Hid (lines[k].t = lines'[k].t → ∀ j, j < k + 1 → ∀ (g1 : j < lines.length) (g2 : j < lines'.length), lines[j].t = lines'[j].t) := Lib.hid (fun h j hj g1 g2 => by
      by_cases e : j = k
      · subst e; exact h
      · exact A1.out j (by omega) g1 g2)
    have HCC := Lib.hid (fun n => reqI_any lines[k].ao lines'[k].ao lines[k].cap lines'[k].cap lines[k].t.code lines'[k].t.code (wr.drewN n) (i6.drewN n) (j6.drewN n))
    generalize lines[k] = e at *
    generalize lines'[k] = f at *
    obtain ⟨t0, t1⟩ := a6
    obtain ⟨s0, s1⟩ := b6
    obtain ⟨⟨mm, code⟩, ao, cap⟩ := e
    obtain ⟨⟨mm', code'⟩, ao', cap'⟩ := f
    simp only at t0 t1 s0 s1 HCC N2 A2
    have ECt : Hid (eqB code code' = true → code = code') := Lib.hid eqB_iff.1
    have ECf : Hid (eqB code code' = false → code ≠ code') := Lib.hid (fun h e => by rw [eqB_of e] at h; cases h)
    generalize eqB code code' = zc at *
    have hkO : (0 : Int) ≤ (k : Int) := Int.natCast_nonneg _
    have hkI : (k : Int) < (lines.length : Int) := by omega
    have hkJ : (k : Int) < (lines'.length : Int) := by omega
    clear A1 RL RS RQ RM RN RO Y3 Y4 Y5 i6 j6 HC HC'
    go_upto_region 13 with fail
    by_cases h0 : mm = mm'
    case neg =>
      have q0 : (mm != mm') = true := by simpa using h0
      obtain rfl := N2.out (fun e => h0 (by simp only [Lin.mk.injEq] at e; exact e.1))
      clear N2 A2 HCC ECt ECf h0
      go_quiet (fail)
      have B5 := Lib.hid (below_drewN B1.out nq)
      have BZ := Lib.hid (below_on B2.out B5.out)
      go_wp2_with fail
      go_ret
      exact ⟨rfl, BZ.out⟩
    subst h0
    have q0 : (mm != mm) = false := by simp
    go_quiet (first | (go_at_call 24; refine Calls.quiet_of (HCC.out _)))
    have B5 := Lib.hid (below_drewN B1.out nq)
    clear HCC
    cases zc
    case false =>
      obtain rfl := N2.out (fun e => ECf.out rfl (by simp only [Lin.mk.injEq] at e; exact e.2))
      clear N2 A2 ECt ECf
      have BZ := Lib.hid (below_on B2.out B5.out)
      go_wp2_with fail
      go_ret
      exact ⟨rfl, BZ.out⟩
    have hcc := ECt.out rfl
    subst hcc
    have A3 := Lib.hid (A2.out rfl)
    clear N2 A2 ECt ECf t0 t1 s0 s1
    go_wp2_with fail
    go_roundw
    case rel => exact ⟨k + 1, by go_num, hlt, B5, A3⟩
    case measure => simp [intOf]; omega
  obtain rfl : k = lines.length := by omega
  have AL := Lib.hid (fun k g1 g2 => A1.out k g1 g1 g2)
  clear A1 RL hlt hk
  go_wp2_with fail
  refine (Y3.out wr B1.out).mono ?_
  rintro r wq ⟨rfl, q, rfl⟩
  have X3' : Below w2.heap.size w2 (wr.drewN q) := below_drewN B1.out q
  obtain ⟨x3, ev⟩ : ∃ x3, x3 = wr.drewN q := ⟨_, rfl⟩
  rw [← ev] at X3' ⊢
  have X3 := Lib.hid X3'
  clear ev X3' c0 c1 c2 c3 c4 c5 c6 c7 c8 c9 c10 c11 d0 d1 d2 d3 d4 d5 d6 d7 d8 d9 d10 d11 Y3
  obtain ⟨c0, c1, c2, c3, c4, c5, c6, c7, c8, c9, c10, c11⟩ := HC.out x3 X3.out
  obtain ⟨d0, d1, d2, d3, d4, d5, d6, d7, d8, d9, d10, d11⟩ := HC'.out x3 X3.out
  simp only at c0 c1 c2 c3 c4 c5 c6 c7 c8 c9 c10 c11 d0 d1 d2 d3 d4 d5 d6 d7 d8 d9 d10 d11
  cases z3
  case false =>
    obtain rfl := RS.out (by simp)
    clear RS RQ RM RN RO Y4 Y5 HC HC' AT AL c0 c1 c2 c3 c4 c5 c6 c7 c8 c9 c10 c11 d0 d1 d2 d3 d4 d5 d6 d7 d8 d9 d10 d11
    have BZ := Lib.hid (below_on B2.out X3.out)
    go_wp2_with fail
    go_ret
    exact ⟨rfl, BZ.out⟩
  go_wp2_with fail
  refine (Y4.out x3 X3.out).mono ?_
  rintro r wq ⟨rfl, q, rfl⟩
  have X4' : Below w2.heap.size w2 (x3.drewN q) := below_drewN X3.out q
  obtain ⟨x4, ev⟩ : ∃ x4, x4 = x3.drewN q := ⟨_, rfl⟩
  rw [← ev] at X4' ⊢
  have X4 := Lib.hid X4'
  clear ev X4' c0 c1 c2 c3 c4 c5 c6 c7 c8 c9 c10 c11 d0 d1 d2 d3 d4 d5 d6 d7 d8 d9 d10 d11 Y4
  obtain ⟨c0, c1, c2, c3, c4, c5, c6, c7, c8, c9, c10, c11⟩ := HC.out x4 X4.out
  obtain ⟨d0, d1, d2, d3, d4, d5, d6, d7, d8, d9, d10, d11⟩ := HC'.out x4 X4.out
  simp only at c0 c1 c2 c3 c4 c5 c6 c7 c8 c9 c10 c11 d0 d1 d2 d3 d4 d5 d6 d7 d8 d9 d10 d11
  cases z4
  case false =>
    obtain rfl := RQ.out (by simp)
    clear RS RQ RM RN RO Y5 HC HC' AT AL c0 c1 c2 c3 c4 c5 c6 c7 c8 c9 c10 c11 d0 d1 d2 d3 d4 d5 d6 d7 d8 d9 d10 d11
    have BZ := Lib.hid (below_on B2.out X4.out)
    go_wp2_with fail
    go_ret
    exact ⟨rfl, BZ.out⟩
  go_wp2_with fail
  refine (Y5.out x4 X4.out).mono ?_
  rintro r wq ⟨rfl, q, rfl⟩
  have X5' : Below w2.heap.size w2 (x4.drewN q) := below_drewN X4.out q
  obtain ⟨x5, ev⟩ : ∃ x5, x5 = x4.drewN q := ⟨_, rfl⟩
  rw [← ev] at X5' ⊢
  have X5 := Lib.hid X5'
  clear ev X5' c0 c1 c2 c3 c4 c5 c6 c7 c8 c9 c10 c11 d0 d1 d2 d3 d4 d5 d6 d7 d8 d9 d10 d11 Y5
  obtain ⟨c0, c1, c2, c3, c4, c5, c6, c7, c8, c9, c10, c11⟩ := HC.out x5 X5.out
  obtain ⟨d0, d1, d2, d3, d4, d5, d6, d7, d8, d9, d10, d11⟩ := HC'.out x5 X5.out
  simp only at c0 c1 c2 c3 c4 c5 c6 c7 c8 c9 c10 c11 d0 d1 d2 d3 d4 d5 d6 d7 d8 d9 d10 d11
  cases z5
  case false =>
    obtain rfl := RM.out (by simp)
    clear RS RQ RM RN RO  HC HC' AT AL c0 c1 c2 c3 c4 c5 c6 c7 c8 c9 c10 c11 d0 d1 d2 d3 d4 d5 d6 d7 d8 d9 d10 d11
    have BZ := Lib.hid (below_on B2.out X5.out)
    go_wp2_with fail
    go_ret
    exact ⟨rfl, BZ.out⟩
  by_cases h0 : mtx = mtx'
  case neg =>
    have q0 : (mtx == mtx') = false := by simpa using h0
    obtain rfl := RN.out (fun h => h0 h.1)
    clear RS RQ RM RN RO HC HC' AT AL h0
    have BZ := Lib.hid (below_on B2.out X5.out)
    go_wp2_with fail
    go_ret
    exact ⟨rfl, BZ.out⟩
  subst h0
  by_cases h1 : table = table'
  case neg =>
    have q1 : (table == table') = false := by simpa using h1
    obtain rfl := RN.out (fun h => h1 h.2.1)
    clear RS RQ RM RN RO HC HC' AT AL h1
    have BZ := Lib.hid (below_on B2.out X5.out)
    go_wp2_with fail
    go_ret
    exact ⟨rfl, BZ.out⟩
  subst h1
  by_cases h2 : mask = mask'
  case neg =>
    have q2 : ((mask : Int) == (mask' : Int)) = false := by simp; omega
    obtain rfl := RN.out (fun h => h2 h.2.2.1)
    clear RS RQ RM RN RO HC HC' AT AL h2
    have BZ := Lib.hid (below_on B2.out X5.out)
    go_wp2_with fail
    go_ret
    exact ⟨rfl, BZ.out⟩
  subst h2
  by_cases h3 : filter = filter'
  case neg =>
    have q3 : ((filter : Int) == (filter' : Int)) = false := by simp; omega
    obtain rfl := RN.out (fun h => h3 h.2.2.2.1)
    clear RS RQ RM RN RO HC HC' AT AL h3
    have BZ := Lib.hid (below_on B2.out X5.out)
    go_wp2_with fail
    go_ret
    exact ⟨rfl, BZ.out⟩
  subst h3
  by_cases h4 : charge = charge'
  case neg =>
    have q4 : (charge == charge') = false := by simpa using h4
    obtain rfl := RN.out (fun h => h4 h.2.2.2.2.1)
    clear RS RQ RM RN RO HC HC' AT AL h4
    have BZ := Lib.hid (below_on B2.out X5.out)
    go_wp2_with fail
    go_ret
    exact ⟨rfl, BZ.out⟩
  subst h4
  by_cases h5 : cycle = cycle'
  case neg =>
    have q5 : ((cycle : Int) == (cycle' : Int)) = false := by simp; omega
    obtain rfl := RN.out (fun h => h5 h.2.2.2.2.2.1)
    clear RS RQ RM RN RO HC HC' AT AL h5
    have BZ := Lib.hid (below_on B2.out X5.out)
    go_wp2_with fail
    go_ret
    exact ⟨rfl, BZ.out⟩
  subst h5
  by_cases h6 : count = count'
  case neg =>
    have q6 : ((count : Int) == (count' : Int)) = false := by simp; omega
    obtain rfl := RN.out (fun h => h6 h.2.2.2.2.2.2)
    clear RS RQ RM RN RO HC HC' AT AL h6
    have BZ := Lib.hid (below_on B2.out X5.out)
    go_wp2_with fail
    go_ret
    exact ⟨rfl, BZ.out⟩
  subst h6
  obtain rfl := RO.out HL1.out AT.out HL2.out AL.out (by simp) (by simp) (by simp) ⟨rfl, rfl, rfl, rfl, rfl, rfl, rfl⟩
  clear RS RQ RM RN RO HC HC' AT AL
  have BZ := Lib.hid (below_on B2.out X5.out)
  go_wp2_with fail
  go_ret
  exact ⟨rfl, BZ.out⟩
theorem rsame_any (x y : CfgV) (w : World) (hx : SeenC w x) (hy : SeenC w y) : Calls Tryd.prog 13 #[cfV x, cfV y] w fun r w' => r = .returned (.bool (eqB x.c y.c)) ∧ Below w.heap.size w w' := rsame_walk x y _ w hx hy (Lib.hid (sameR x y))

end Go.Proofs.YtbhnehacgkhpbaaDoor
