/-
  conf's check of lists of numbers, of each part, and of a system, over this seat's translation. Conditions: the table's cells (IsL), a system in memory.
-/
import Derived.Test.YtbhnehacgkhpbaaDoorCf2
namespace Go.Proofs.YtbhnehacgkhpbaaDoor
open Go.RowKit
set_option linter.unusedVariables false
set_option linter.unusedSimpArgs false

theorem cobj1_any (n lo hi : Int) (b1 b2 : Nat) (w : World) (h1 : w.cell? ⟨b1, 0, none⟩ = some (.int .i64 lo)) (h2 : w.cell? ⟨b2, 0, none⟩ = some (.int .i64 hi)) :
    Calls Tryd.prog 43 #[.int .i64 n, .pointer (some ⟨b1, 0, none⟩), .pointer (some ⟨b2, 0, none⟩)] w fun r w' => r = .returned (.tuple #[.int .i64 (rangeE n lo hi), .int .i64 1]) ∧ w = w' := by
  go_enter Tryd.func43, Tryd.ntmps43
  go_wp2_with fail
  refine (range_any n lo hi w).mono ?_
  rintro r w4 ⟨rfl, rfl⟩
  go_wp2
  go_ret2
  exact ⟨rfl, rfl⟩

set_option maxRecDepth 100000 in
set_option maxHeartbeats 2000000 in
theorem eachn_walk (ao : Option Addr) (cap : Nat) (l : List Int) (lo hi : Int) (b1 b2 : Nat) (X Y Z : Int) (w : World) (hl : SeenZ w ao cap l)
    (H1 : Hid (w.cell? ⟨b1, 0, none⟩ = some (.int .i64 lo))) (H2 : Hid (w.cell? ⟨b2, 0, none⟩ = some (.int .i64 hi)))
    (HX1 : Hid (32 < l.length → X = 4 ∧ Y = 0 ∧ Z = 0)) (HX2 : Hid (l.length ≤ 32 → (∀ x ∈ l, rangeE x lo hi = 0) → X = 0 ∧ Y = 0 ∧ Z = 0))
    (HX3 : Hid (l.length ≤ 32 → ∀ k (hk : k < l.length), (∀ j (hj : j < k), rangeE (l[j]'(by omega)) lo hi = 0) → rangeE l[k] lo hi ≠ 0 → X = rangeE l[k] lo hi ∧ Y = (k : Int) ∧ Z = 1)) :
    Calls Tryd.prog 42 #[.slice ao l.length cap, .int .i64 32, .func (.func 43) #[] #[.pointer (some ⟨b1, 0, none⟩), .pointer (some ⟨b2, 0, none⟩)]] w fun r w' => r = .returned (.tuple #[.int .i64 X, .int .i64 Y, .int .i64 Z]) ∧ w = w' := by
  have H := Lib.hid hl
  have hmx := hl.mx
  unfold maxLen at hmx
  clear hl
  by_cases h6 : 32 < l.length
  · have d : decide ((32 : Int) < (l.length : Int)) = true := by simp; omega
    obtain ⟨rfl, rfl, rfl⟩ := HX1.out h6
    clear HX2 HX3 HX1 h6
    go_enter Tryd.func42, Tryd.ntmps42
    go_wp2
    go_ret3
    exact ⟨rfl, rfl⟩
  · have d : decide ((32 : Int) < (l.length : Int)) = false := by simp; omega
    have h7 : l.length ≤ 32 := by omega
    go_enter Tryd.func42, Tryd.ntmps42
    go_wp2_with fail
    go_loopw [19] (fun x wr => ∃ k : Nat, x = .int .i64 k ∧ k ≤ l.length ∧ Hid (wr = w) ∧ Hid (∀ j (hj : j < k) (hj' : j < l.length), rangeE l[j] lo hi = 0)) (fun x _ => l.length - (intOf x).toNat)
    case atStart => exact ⟨0, rfl, Nat.zero_le _, Lib.hid rfl, Lib.hid (fun j hj => absurd hj (by omega))⟩
    case round =>
      obtain ⟨k, rfl, hk, hww, A1⟩ := hrel
      have hw2 := hww.out
      obtain rfl := hw2.symm
      clear hww hw2
      by_cases hlt : k < l.length
      · obtain ⟨b, off, rfl, -, a6⟩ := seenZ_at H.out k hlt
        have H3 := Lib.hid (fun hn => HX3.out h7 k hlt (fun j hj => A1.out j hj (by omega)) hn)
        have A2 : Hid (rangeE l[k] lo hi = 0 → ∀ j (hj : j < k + 1) (hj' : j < l.length), rangeE l[j] lo hi = 0) := Lib.hid (fun h j hj hj' => by
          by_cases e : j = k
          · subst e; exact h
          · exact A1.out j (by omega) hj')
        have HC := Lib.hid (cobj1_any l[k] lo hi b1 b2 w H1.out H2.out)
        generalize rangeE l[k] lo hi = E at *
        generalize l[k] = e at *
        have hkI : (k : Int) < (l.length : Int) := by omega
        have hkO : (0 : Int) ≤ (k : Int) := by omega
        clear A1
        go_wp2_with fail
        refine HC.out.mono ?_
        rintro r w3 ⟨rfl, rfl⟩
        clear HC a6
        by_cases hE : E = 0
        · subst hE
          have A3 := Lib.hid (A2.out rfl)
          clear A2 H3
          go_wp2_with fail
          go_roundw
          case rel => exact ⟨k + 1, by go_num, hlt, Lib.hid trivial, A3⟩
          case measure => simp [intOf]; omega
        · have hE' : (E != 0) = true := by simp [hE]
          obtain ⟨rfl, rfl, rfl⟩ := H3.out hE
          clear A2 H3 hE
          go_wp2
          go_ret3
          exact ⟨rfl, rfl⟩
      · obtain rfl : k = l.length := by omega
        obtain ⟨rfl, rfl, rfl⟩ := HX2.out h7 (fun x hx => by
          obtain ⟨j, hj, rfl⟩ := List.getElem_of_mem hx
          exact A1.out j hj hj)
        clear HX1 HX2 HX3 A1
        go_wp2
        go_ret3
        exact ⟨rfl, rfl⟩
theorem eachn_any (ao : Option Addr) (cap : Nat) (l : List Int) (lo hi : Int) (b1 b2 : Nat) (w : World) (hl : SeenZ w ao cap l) (h1 : w.cell? ⟨b1, 0, none⟩ = some (.int .i64 lo)) (h2 : w.cell? ⟨b2, 0, none⟩ = some (.int .i64 hi)) :
    Calls Tryd.prog 42 #[.slice ao l.length cap, .int .i64 32, .func (.func 43) #[] #[.pointer (some ⟨b1, 0, none⟩), .pointer (some ⟨b2, 0, none⟩)]] w fun r w' => r = .returned (.tuple #[.int .i64 (eachE 32 (numE lo hi) l).1, .int .i64 (eachE 32 (numE lo hi) l).2.1, .int .i64 (eachE 32 (numE lo hi) l).2.2]) ∧ w = w' := by
  refine eachn_walk ao cap l lo hi b1 b2 _ _ _ w hl (Lib.hid h1) (Lib.hid h2) (Lib.hid fun h => ?_) (Lib.hid fun h h2 => ?_) (Lib.hid fun h k hk h1 h2 => ?_)
  · unfold eachE
    rw [if_pos h]
    exact ⟨rfl, rfl, rfl⟩
  · rw [eachE_of h (by simpa [numE] using h2)]
    exact ⟨rfl, rfl, rfl⟩
  · have e : eachE 32 (numE lo hi) l = (rangeE l[k] lo hi, (k : Int), 1) := by
      unfold eachE
      rw [if_neg (show ¬ 32 < l.length by omega), firstE_hit l 0 k hk (by simpa [numE] using h1) (by simpa [numE] using h2)]
      simp [numE]
    rw [e]
    exact ⟨rfl, rfl, rfl⟩

set_option maxRecDepth 100000 in
set_option maxHeartbeats 2000000 in
theorem cobj_any (ao : Option Addr) (cap : Nat) (l : List Int) (lo hi : Int) (w : World) (hl : SeenZ w ao cap l) :
    Calls Tryd.prog 37 #[.slice ao l.length cap, .int .i64 lo, .int .i64 hi] w fun r w' => r = .returned (.tuple #[.int .i64 (eachE 32 (numE lo hi) l).1, .int .i64 (eachE 32 (numE lo hi) l).2.1, .int .i64 (eachE 32 (numE lo hi) l).2.2]) ∧ Below w.heap.size w w' := by
  have hmf : ∀ (fn : Fn) (first cap : Array Value) (w : World), (Instr.makeFunc fn first cap).run Tryd.prog w = .ok (.func fn first cap) w := fun _ _ _ _ => rfl
  obtain ⟨w1, e1⟩ : ∃ w1, w1 = w.alloc (.cells #[.int .i64 lo] 3) := ⟨_, rfl⟩
  obtain ⟨s1, n1, b1⟩ := new_size e1
  obtain ⟨w2, e2⟩ : ∃ w2, w2 = w1.alloc (.cells #[.int .i64 hi] 3) := ⟨_, rfl⟩
  obtain ⟨s2, n2, b2⟩ := new_size e2
  have n1' := blk_on b2 n1
  rw [s1] at n2
  have HE := Lib.hid (eachn_any ao cap l lo hi w.heap.size (w.heap.size + 1) w2 (hl.below (below_on b1 b2)) (by simp [World.cell?, n1']) (by simp [World.cell?, n2]))
  have B2 := Lib.hid (below_on b1 b2)
  generalize eachE 32 (numE lo hi) l = R at *
  obtain ⟨R1, R2, R3⟩ := R
  clear s1 n1 b1 s2 n2 b2 n1' hl
  go_enter Tryd.func37, Tryd.ntmps37
  go_wp2_with fail
  rw [← e1, ← e2]
  clear e1 e2
  refine HE.out.mono ?_
  rintro r w3 ⟨rfl, rfl⟩
  go_wp2
  go_ret3
  exact ⟨rfl, B2.out⟩

/-- The programs' numbers fit. -/
structure CfK (x : CfgV) : Prop where
  tk : ∀ t ∈ x.tasks, ∀ e ∈ t.t.code, e.k < 4294967296
  lk : ∀ t ∈ x.lines, ∀ e ∈ t.t.code, e.k < 4294967296
  ma : x.mask < 4294967296

set_option maxRecDepth 100000 in
set_option maxHeartbeats 4000000 in
theorem cpart_any (x : CfgV) (p : Nat) (h1 : 1 ≤ p) (h2 : p ≤ 9) (w : World) (hs : SeenC w x) (hL : IsL w) (hk : CfK x) (h8 : p = 8 → x.lines.length ≤ 16) :
    Calls Tryd.prog 15 #[cfV x, .int .i64 (p : Int)] w fun r w' => r = .returned (.tuple #[.int .i64 (partE x.c p).1, .int .i64 (partE x.c p).2.1, .int .i64 (partE x.c p).2.2]) ∧ Below w.heap.size w w' := by
  obtain ⟨w1, e1⟩ : ∃ w1, w1 = w.alloc (cfO x) := ⟨_, rfl⟩
  obtain ⟨s1, n1, b1⟩ := new_size e1
  obtain ⟨D, hD⟩ : ∃ D, w.heap.size = D := ⟨_, rfl⟩
  rw [hD] at n1
  obtain ⟨c0, c1, c2, c3, c4, c5, c6, c7, c8, c9, c10, c11⟩ := cfcells n1
  have H1 := hs.below b1
  have L1 := hL.below b1
  have HT := Lib.hid (eacht_any x.tao x.tcap x.tasks 64 w1 H1.ts L1 (by decide) hk.tk)
  have HLn := Lib.hid (eachl_any x.lao x.lcap x.lines 16 w1 H1.ls L1 (by decide) hk.lk)
  have HM := Lib.hid (range_any x.mtx 0 32 w1)
  have HS := Lib.hid (cobj_any x.sao x.scap x.sems 0 255 w1 H1.ss)
  have HQ := Lib.hid (cobj_any x.qao x.qcap x.queues 1 64 w1 H1.qs)
  have HI := Lib.hid (cobj_any x.mao x.mcap x.timers 0 ((x.sems.length : Int) - 1) w1 H1.ms)
  have HTb := Lib.hid (range_any x.table 0 64 w1)
  have HMk := Lib.hid (fun (h : x.lines.length ≤ 16) => mask_any x.mask x.lines.length (by omega) w1)
  have HCh := Lib.hid (range_any x.charge 0 64 w1)
  have B1 := Lib.hid b1
  have HD := Lib.hid hD
  have m1 := hs.ls.row.mx
  have m2 := hs.ss.mx
  have m3 := hs.ts.row.mx
  have m4 := hs.qs.mx
  have m5 := hs.ms.mx
  unfold maxLen at m1 m2 m3 m4 m5
  unfold cfV cfCells
  unfold cfO cfCells at e1
  obtain ⟨tao, tcap, tasks, lao, lcap, lines, mtx, sao, scap, sems, qao, qcap, queues, mao, mcap, timers, table, mask, filter, charge, cycle, count⟩ := x
  simp only [CfgV.c] at *
  clear s1 n1 b1 hD H1 L1 hs hL hk
  rcases nine h1 (by omega) with rfl | rfl | rfl | rfl | rfl | rfl | rfl | rfl | rfl <;> simp only [partE] <;> clear h1 h2
  · clear HLn HM HS HQ HI HTb HMk HCh
    generalize eachE 64 taskE (tasks.map (·.t)) = R at *
    obtain ⟨R1, R2, R3⟩ := R
    simp only at *
    go_enter Tryd.func15, Tryd.ntmps15
    go_upto_region 1 with fail
    rw [← e1, HD.out]
    clear e1
    go_wp2_with fail
    refine HT.out.mono ?_
    rintro r w2 ⟨rfl, h3⟩
    have B2 := Lib.hid (below_on B1.out h3)
    clear h3
    clear HT c0 c1 c2 c3 c4 c5 c6 c7 c8 c9 c10 c11
    go_wp2
    go_ret3
    exact ⟨rfl, B2.out⟩
  · clear HT HM HS HQ HI HTb HMk HCh
    generalize eachE 16 lineE (lines.map (·.t)) = R at *
    obtain ⟨R1, R2, R3⟩ := R
    simp only at *
    go_enter Tryd.func15, Tryd.ntmps15
    go_upto_region 1 with fail
    rw [← e1, HD.out]
    clear e1
    go_wp2_with fail
    refine HLn.out.mono ?_
    rintro r w2 ⟨rfl, h3⟩
    have B2 := Lib.hid (below_on B1.out h3)
    clear h3
    clear HLn c0 c1 c2 c3 c4 c5 c6 c7 c8 c9 c10 c11
    go_wp2
    go_ret3
    exact ⟨rfl, B2.out⟩
  · clear HT HLn HS HQ HI HTb HMk HCh
    generalize rangeE mtx 0 32 = R at *
    go_enter Tryd.func15, Tryd.ntmps15
    go_upto_region 1 with fail
    rw [← e1, HD.out]
    clear e1
    go_wp2_with fail
    refine HM.out.mono ?_
    rintro r w2 ⟨rfl, rfl⟩
    clear HM c0 c1 c2 c3 c4 c5 c6 c7 c8 c9 c10 c11
    go_wp2
    go_ret3
    exact ⟨rfl, B1.out⟩
  · clear HT HLn HM HQ HI HTb HMk HCh
    generalize eachE 32 (numE 0 255) sems = R at *
    obtain ⟨R1, R2, R3⟩ := R
    simp only at *
    go_enter Tryd.func15, Tryd.ntmps15
    go_upto_region 1 with fail
    rw [← e1, HD.out]
    clear e1
    go_wp2_with fail
    refine HS.out.mono ?_
    rintro r w2 ⟨rfl, h3⟩
    have B2 := Lib.hid (below_on B1.out h3)
    clear h3
    clear HS c0 c1 c2 c3 c4 c5 c6 c7 c8 c9 c10 c11
    go_wp2
    go_ret3
    exact ⟨rfl, B2.out⟩
  · clear HT HLn HM HS HI HTb HMk HCh
    generalize eachE 32 (numE 1 64) queues = R at *
    obtain ⟨R1, R2, R3⟩ := R
    simp only at *
    go_enter Tryd.func15, Tryd.ntmps15
    go_upto_region 1 with fail
    rw [← e1, HD.out]
    clear e1
    go_wp2_with fail
    refine HQ.out.mono ?_
    rintro r w2 ⟨rfl, h3⟩
    have B2 := Lib.hid (below_on B1.out h3)
    clear h3
    clear HQ c0 c1 c2 c3 c4 c5 c6 c7 c8 c9 c10 c11
    go_wp2
    go_ret3
    exact ⟨rfl, B2.out⟩
  · clear HT HLn HM HS HQ HTb HMk HCh
    generalize eachE 32 (numE 0 ((sems.length : Int) - 1)) timers = R at *
    obtain ⟨R1, R2, R3⟩ := R
    simp only at *
    go_enter Tryd.func15, Tryd.ntmps15
    go_upto_region 1 with fail
    rw [← e1, HD.out]
    clear e1
    go_wp2_with fail
    refine HI.out.mono ?_
    rintro r w2 ⟨rfl, h3⟩
    have B2 := Lib.hid (below_on B1.out h3)
    clear h3
    clear HI c0 c1 c2 c3 c4 c5 c6 c7 c8 c9 c10 c11
    go_wp2
    go_ret3
    exact ⟨rfl, B2.out⟩
  · clear HT HLn HM HS HQ HI HMk HCh
    generalize rangeE table 0 64 = R at *
    go_enter Tryd.func15, Tryd.ntmps15
    go_upto_region 1 with fail
    rw [← e1, HD.out]
    clear e1
    go_wp2_with fail
    refine HTb.out.mono ?_
    rintro r w2 ⟨rfl, rfl⟩
    clear HTb c0 c1 c2 c3 c4 c5 c6 c7 c8 c9 c10 c11
    go_wp2
    go_ret3
    exact ⟨rfl, B1.out⟩
  · clear HT HLn HM HS HQ HI HTb HCh
    replace HMk := Lib.hid (HMk.out (h8 rfl))
    clear h8
    rw [List.length_map]
    generalize maskE mask lines.length = R at *
    go_enter Tryd.func15, Tryd.ntmps15
    go_upto_region 1 with fail
    rw [← e1, HD.out]
    clear e1
    go_wp2_with fail
    refine HMk.out.mono ?_
    rintro r w2 ⟨rfl, rfl⟩
    clear HMk c0 c1 c2 c3 c4 c5 c6 c7 c8 c9 c10 c11
    go_wp2
    go_ret3
    exact ⟨rfl, B1.out⟩
  · clear HT HLn HM HS HQ HI HTb HMk
    generalize rangeE charge 0 64 = R at *
    go_enter Tryd.func15, Tryd.ntmps15
    go_upto_region 1 with fail
    rw [← e1, HD.out]
    clear e1
    go_wp2_with fail
    refine HCh.out.mono ?_
    rintro r w2 ⟨rfl, rfl⟩
    clear HCh c0 c1 c2 c3 c4 c5 c6 c7 c8 c9 c10 c11
    go_wp2
    go_ret3
    exact ⟨rfl, B1.out⟩

theorem part_nat (c : Cfg) (p : Nat) (h : p ≤ 8 ∨ p = 9) : partE c p = partE c p := rfl
theorem part_lines {c : Cfg} (h : (partE c 2).1 = 0) : c.lines.length ≤ 16 := (eachE_ok (most := 16) (f := lineE) (l := c.lines) h).1

set_option maxRecDepth 100000 in
set_option maxHeartbeats 4000000 in
theorem ccheck_any (x : CfgV) (w : World) (hs : SeenC w x) (hL : IsL w) (hk : CfK x) :
    Calls Tryd.prog 10 #[cfV x] w fun r w' => r = .returned (fltV (checkC x.c)) ∧ Below w.heap.size w w' := by
  obtain ⟨w1, e1⟩ : ∃ w1, w1 = w.alloc (cfO x) := ⟨_, rfl⟩
  obtain ⟨s1, n1, b1⟩ := new_size e1
  obtain ⟨w2, e2⟩ : ∃ w2, w2 = w1.alloc (.cells #[.int .i64 0, .int .i64 0, .int .i64 0, .int .i64 0] 33) := ⟨_, rfl⟩
  obtain ⟨s2, n2, b2⟩ := new_size e2
  have n1' := blk_on b2 n1
  obtain ⟨D, hD⟩ : ∃ D, w.heap.size = D := ⟨_, rfl⟩
  obtain ⟨E, hE⟩ : ∃ E, D + 1 = E := ⟨_, rfl⟩
  rw [hD] at n1'
  rw [s1, hD, hE] at n2
  have H2 := hs.below (below_on b1 b2)
  have L2 := hL.below (below_on b1 b2)
  have HP := Lib.hid (fun p h1 h2 wr (hb : Below w2.heap.size w2 wr) h8 => cpart_any x p h1 h2 wr (H2.below hb) (L2.below hb) hk h8)
  have N1 := Lib.hid n1'
  have N2 := Lib.hid n2
  have B2 := Lib.hid (below_on b1 b2)
  have HD := Lib.hid hD
  have HE := Lib.hid hE
  have HDE := Lib.hid (show w.heap.size ≤ E by omega)
  have HX1 := Lib.hid (fun (h : ∀ q, 1 ≤ q → q < 10 → (partE x.c q).1 = 0) => checkC_ok h)
  have HX2 := Lib.hid (fun (p : Nat) h1 h2 (h : ∀ q, 1 ≤ q → q < p → (partE x.c q).1 = 0) hn => checkC_hit (c := x.c) p h1 h2 h hn)
  have HLn := Lib.hid (show (partE x.c 2).1 = 0 → x.lines.length ≤ 16 from fun h => by have := part_lines h; simpa [CfgV.c] using this)
  unfold fltV
  generalize checkC x.c = RR at *
  obtain ⟨R1, R2, R3, R4⟩ := RR
  have HPE : Hid (partE x.c = partE x.c) := Lib.hid rfl
  generalize partE x.c = P at *
  obtain ⟨tao, tcap, tasks, lao, lcap, lines, mtx, sao, scap, sems, qao, qcap, queues, mao, mcap, timers, table, mask, filter, charge, cycle, count⟩ := x
  unfold cfO cfCells at e1 N1
  unfold cfV cfCells at *
  simp only at *
  clear s1 n1 b1 s2 n2 b2 n1' hD hE H2 L2 hs hL hk HPE
  go_enter Tryd.func10, Tryd.ntmps10
  go_upto_region 1 with fail
  rw [← e1, HD.out, ← e2, HE.out]
  clear e1 e2
  go_wp2_with fail
  go_loopw [3] (fun x wr => ∃ p : Nat, x = .int .i64 p ∧ 1 ≤ p ∧ p ≤ 10 ∧ Hid (Below w2.heap.size w2 wr) ∧ Hid (∀ q, 1 ≤ q → q < p → (P q).1 = 0)) (fun x _ => 10 - (intOf x).toNat)
  case atStart => exact ⟨1, rfl, by omega, by omega, Lib.hid (Below.refl _ _), Lib.hid (fun q g1 g2 => absurd g2 (by omega))⟩
  case round =>
    obtain ⟨p, rfl, p1, p2, B3, A1⟩ := hrel
    by_cases hp : p = 10
    · subst hp
      have hR := HX1.out A1.out
      simp only [Prod.mk.injEq] at hR
      obtain ⟨rfl, rfl, rfl, rfl⟩ := hR
      have n4 := blk_on B3.out N2.out
      obtain ⟨f0, f1, f2, f3, g0, g1, g2, g3⟩ := fltcells n4
      have N4 := Lib.hid n4
      have B4 := Lib.hid (below_on B2.out B3.out)
      clear n4 HX1 HX2
      go_wp2_with fail
      exact bodyPost_ret (ret_flt rfl rfl (flt_stored N4.out)) rfl ⟨rfl, flt_below B4.out HDE.out⟩
    · have n4 := blk_on B3.out N2.out
      have m4 := blk_on B3.out N1.out
      obtain ⟨c0, c1, c2, c3, c4, c5, c6, c7, c8, c9, c10, c11⟩ := cfcells (x := ⟨tao, tcap, tasks, lao, lcap, lines, mtx, sao, scap, sems, qao, qcap, queues, mao, mcap, timers, table, mask, filter, charge, cycle, count⟩) m4
      simp only at c0 c1 c2 c3 c4 c5 c6 c7 c8 c9 c10 c11
      have N4 := Lib.hid n4
      have q9 : (p : Int) ≤ 9 := by omega
      have hq8 : p = 8 → lines.length ≤ 16 := fun h => HLn.out (A1.out 2 (by omega) (by omega))
      have HC := Lib.hid (HP.out p p1 (by omega) wr B3.out hq8)
      have HR := Lib.hid (fun hn => HX2.out p p1 (by omega) A1.out hn)
      have A2 : Hid ((P p).1 = 0 → ∀ q, 1 ≤ q → q < p + 1 → (P q).1 = 0) := Lib.hid (fun h q g1 g2 => by
        by_cases e : q = p
        · subst e; exact h
        · exact A1.out q g1 (by omega))
      have P10 := Lib.hid (show p + 1 ≤ 10 by omega)
      generalize P p = Q at *
      obtain ⟨Q1, Q2, Q3⟩ := Q
      simp only at *
      clear m4 n4 HP HX1 HX2 HLn A1 hp hq8
      go_wp2_with fail
      refine HC.out.mono ?_
      rintro r w5 ⟨rfl, h5⟩
      have B5 := Lib.hid (below_on B3.out h5)
      clear HC c0 c1 c2 c3 c4 c5 c6 c7 c8 c9 c10 c11
      by_cases hQ : Q1 = 0
      · subst hQ
        have A3 := Lib.hid (A2.out rfl)
        clear A2 HR h5
        go_wp2_with fail
        go_roundw
        case rel => exact ⟨p + 1, by go_num, by omega, P10.out, B5, A3⟩
        case measure => have := P10.out; simp [intOf]; omega
      · have hQ' : (Q1 != 0) = true := by simp [hQ]
        have hR := HR.out hQ
        simp only [Prod.mk.injEq] at hR
        obtain ⟨rfl, rfl, rfl, rfl⟩ := hR
        have n6 := blk_on h5 N4.out
        obtain ⟨f0, f1, f2, f3, g0, g1, g2, g3⟩ := fltcells n6
        have N6 := Lib.hid n6
        have B6 := Lib.hid (below_on B2.out B5.out)
        clear A2 HR h5 n6 hQ
        go_wp2_with fail
        exact bodyPost_ret (ret_flt rfl rfl (flt_stored N6.out)) rfl ⟨rfl, flt_below B6.out HDE.out⟩

end Go.Proofs.YtbhnehacgkhpbaaDoor
