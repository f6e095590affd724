/-
  The document's check of a system, over this seat's translation. Conditions: a system in memory.
-/
import Derived.Test.YtbhnehacgkhpbaaDoorCf3
namespace Go.Proofs.YtbhnehacgkhpbaaDoor
open Go.RowKit
set_option linter.unusedVariables false
set_option linter.unusedSimpArgs false

theorem out_t {n lo hi : Int} (h : outB n lo hi = true) : rangeE n lo hi ≠ 0 := (outB_is n lo hi).1.2 h
theorem out_f {n lo hi : Int} (h : outB n lo hi = false) : rangeE n lo hi = 0 := (outB_is n lo hi).2.1.2 h
theorem taskE_1 {t : Tsk} (h1 : outB t.lv 0 31 = true) : taskE t = (5, 1) := by
  unfold taskE; rw [if_pos (out_t h1)]
theorem taskE_2 {t : Tsk} (h1 : outB t.lv 0 31 = false) (h2 : outB t.ot 1 1073741824 = true) : taskE t = (5, 2) := by
  unfold taskE; rw [if_neg (by simp [out_f h1]), if_pos (out_t h2)]
theorem taskE_3 {t : Tsk} (h1 : outB t.lv 0 31 = false) (h2 : outB t.ot 1 1073741824 = false) (h3 : outB t.pd 0 1073741824 = true) : taskE t = (5, 3) := by
  unfold taskE; rw [if_neg (by simp [out_f h1]), if_neg (by simp [out_f h2]), if_pos (out_t h3)]
theorem taskE_4 {t : Tsk} (h1 : outB t.lv 0 31 = false) (h2 : outB t.ot 1 1073741824 = false) (h3 : outB t.pd 0 1073741824 = false) (h4 : outB t.dl 0 1073741824 = true) : taskE t = (5, 4) := by
  unfold taskE; rw [if_neg (by simp [out_f h1]), if_neg (by simp [out_f h2]), if_neg (by simp [out_f h3]), if_pos (out_t h4)]
theorem taskE_5 {t : Tsk} (h1 : outB t.lv 0 31 = false) (h2 : outB t.ot 1 1073741824 = false) (h3 : outB t.pd 0 1073741824 = false) (h4 : outB t.dl 0 1073741824 = false) (h5 : outB t.mm 0 256 = true) : taskE t = (5, 5) := by
  unfold taskE; rw [if_neg (by simp [out_f h1]), if_neg (by simp [out_f h2]), if_neg (by simp [out_f h3]), if_neg (by simp [out_f h4]), if_pos (out_t h5)]
theorem taskE_6 {t : Tsk} (h1 : outB t.lv 0 31 = false) (h2 : outB t.ot 1 1073741824 = false) (h3 : outB t.pd 0 1073741824 = false) (h4 : outB t.dl 0 1073741824 = false) (h5 : outB t.mm 0 256 = false) : taskE t = codeE 6 false t.code := by
  unfold taskE; rw [if_neg (by simp [out_f h1]), if_neg (by simp [out_f h2]), if_neg (by simp [out_f h3]), if_neg (by simp [out_f h4]), if_neg (by simp [out_f h5])]
theorem lineE_1 {t : Lin} (h1 : outB t.mm 0 256 = true) : lineE t = (5, 1) := by unfold lineE; rw [if_pos (out_t h1)]
theorem lineE_2 {t : Lin} (h1 : outB t.mm 0 256 = false) : lineE t = codeE 2 true t.code := by unfold lineE; rw [if_neg (by simp [out_f h1])]

/-- Where a system's first fault lies, in steps. -/
structure ChkR (c : Cfg) (R1 R2 R3 R4 : Int) : Prop where
  t0 : 64 < c.tasks.length → R1 = 4 ∧ R2 = 1 ∧ R3 = 0 ∧ R4 = 0
  t1 : c.tasks.length ≤ 64 → ∀ k (hk : k < c.tasks.length), (∀ j (hj : j < k), (taskE (c.tasks[j]'(by omega))).1 = 0) → ∀ a b, taskE c.tasks[k] = (a, b) → a ≠ 0 → R1 = a ∧ R2 = 1 ∧ R3 = (k : Int) ∧ R4 = b
  l0 : (partE c 1).1 = 0 → 16 < c.lines.length → R1 = 4 ∧ R2 = 2 ∧ R3 = 0 ∧ R4 = 0
  l1 : (partE c 1).1 = 0 → c.lines.length ≤ 16 → ∀ k (hk : k < c.lines.length), (∀ j (hj : j < k), (lineE (c.lines[j]'(by omega))).1 = 0) → ∀ a b, lineE c.lines[k] = (a, b) → a ≠ 0 → R1 = a ∧ R2 = 2 ∧ R3 = (k : Int) ∧ R4 = b
  r : ∀ p, 1 ≤ p → p ≤ 9 → (∀ q, 1 ≤ q → q < p → (partE c q).1 = 0) → ∀ a b d, partE c p = (a, b, d) → a ≠ 0 → R1 = a ∧ R2 = (p : Int) ∧ R3 = b ∧ R4 = d
  ok : (∀ q, 1 ≤ q → q < 10 → (partE c q).1 = 0) → R1 = 0 ∧ R2 = 0 ∧ R3 = 0 ∧ R4 = 0
theorem chkR (c : Cfg) : ChkR c (checkC c).1 (checkC c).2.1 (checkC c).2.2.1 (checkC c).2.2.2 := by
  have hr : ∀ p, 1 ≤ p → p ≤ 9 → (∀ q, 1 ≤ q → q < p → (partE c q).1 = 0) → ∀ a b d, partE c p = (a, b, d) → a ≠ 0 → (checkC c).1 = a ∧ (checkC c).2.1 = (p : Int) ∧ (checkC c).2.2.1 = b ∧ (checkC c).2.2.2 = d := by
    intro p h1 h2 h3 a b d he hn
    rw [checkC_hit p h1 h2 h3 (by rw [he]; exact hn), he]
    exact ⟨rfl, rfl, rfl, rfl⟩
  have no : ∀ q : Nat, 1 ≤ q → q < 1 → (partE c q).1 = 0 := fun q h1 h2 => by omega
  refine ⟨fun h => ?_, fun h k hk h1 a b he hn => ?_, fun h0 h => ?_, fun h0 h k hk h1 a b he hn => ?_, hr, fun h => ?_⟩
  · exact hr 1 (by decide) (by decide) no 4 0 0 (by show eachE 64 taskE c.tasks = _; unfold eachE; rw [if_pos h]) (by decide)
  · exact hr 1 (by decide) (by decide) no a k b (by
      show eachE 64 taskE c.tasks = _
      unfold eachE
      rw [if_neg (show ¬ 64 < c.tasks.length by omega), firstE_hit c.tasks 0 k hk h1 (by rw [he]; exact hn), he]
      simp) hn
  · exact hr 2 (by decide) (by decide) (fun q g1 g2 => by rw [show q = 1 by omega]; exact h0) 4 0 0 (by show eachE 16 lineE c.lines = _; unfold eachE; rw [if_pos h]) (by decide)
  · exact hr 2 (by decide) (by decide) (fun q g1 g2 => by rw [show q = 1 by omega]; exact h0) a k b (by
      show eachE 16 lineE c.lines = _
      unfold eachE
      rw [if_neg (show ¬ 16 < c.lines.length by omega), firstE_hit c.lines 0 k hk h1 (by rw [he]; exact hn), he]
      simp) hn
  · rw [checkC_ok h]
    exact ⟨rfl, rfl, rfl, rfl⟩
theorem part1_of {c : Cfg} (h1 : c.tasks.length ≤ 64) (h2 : ∀ x ∈ c.tasks, (taskE x).1 = 0) : (partE c 1).1 = 0 := by
  show (eachE 64 taskE c.tasks).1 = 0
  rw [eachE_of h1 h2]
theorem part2_of {c : Cfg} (h1 : c.lines.length ≤ 16) (h2 : ∀ x ∈ c.lines, (lineE x).1 = 0) : (partE c 2).1 = 0 := by
  show (eachE 16 lineE c.lines).1 = 0
  rw [eachE_of h1 h2]
theorem upto_next {P : Nat → Int × Int × Int} {n : Nat} (h : ∀ q, 1 ≤ q → q < n → (P q).1 = 0) (h2 : (P n).1 = 0) : ∀ q, 1 ≤ q → q < n + 1 → (P q).1 = 0 := by
  intro q g1 g2
  by_cases e : q = n
  · rw [e]; exact h2
  · exact h q g1 (by omega)

theorem mask_half (m k : Nat) (h : m < 4294967296) : ((m / 2 ^ k : Nat) : Int).tdiv 2 % 4294967296 = ((m / 2 ^ (k + 1) : Nat) : Int) := by
  have hlem : m / 2 ^ k ≤ m := Nat.div_le_self _ _
  rw [Int.tdiv_eq_ediv_of_nonneg (Int.natCast_nonneg _), Nat.pow_succ, ← Nat.div_div_eq_div_mul]
  generalize m / 2 ^ k = q at *
  omega

set_option maxRecDepth 100000 in
set_option maxHeartbeats 16000000 in
theorem rcheckc_walk (x : CfgV) (R1 R2 R3 R4 : Int) (w : World) (hs : SeenC w x) (hk : CfK x) (HR : Hid (ChkR x.c R1 R2 R3 R4)) :
    Calls Tryd.prog 11 #[cfV x] w fun r w' => r = .returned (.agg #[.int .i64 R1, .int .i64 R2, .int .i64 R3, .int .i64 R4]) ∧ Below w.heap.size w w' := by
  obtain ⟨w1, e1⟩ : ∃ w1, w1 = w.alloc (cfO x) := ⟨_, rfl⟩
  obtain ⟨s1, n1, b1⟩ := new_size e1
  obtain ⟨w2, e2⟩ : ∃ w2, w2 = w1.alloc (.cells #[.int .i64 0, .int .i64 0, .int .i64 0, .int .i64 0] 33) := ⟨_, rfl⟩
  obtain ⟨s2, n2, b2⟩ := new_size e2
  have n1' := blk_on b2 n1
  obtain ⟨D, hD⟩ : ∃ D, w.heap.size = D := ⟨_, rfl⟩
  obtain ⟨E, hE⟩ : ∃ E, D + 1 = E := ⟨_, rfl⟩
  rw [hD] at n1'
  rw [s1, hD, hE] at n2
  have H2 := Lib.hid (hs.below (below_on b1 b2))
  have N1 := Lib.hid n1'
  have N2 := Lib.hid n2
  have B2 := Lib.hid (below_on b1 b2)
  have HD := Lib.hid hD
  have HE := Lib.hid hE
  have HDE := Lib.hid (show w.heap.size ≤ E by omega)
  have HK := Lib.hid hk
  have m1 := hs.ls.row.mx
  have m2 := hs.ss.mx
  have m3 := hs.ts.row.mx
  have m4 := hs.qs.mx
  have m5 := hs.ms.mx
  unfold maxLen at m1 m2 m3 m4 m5
  -- what stands at the block of the system
  have HC : Hid (∀ wr, Below w2.heap.size w2 wr → AtC wr D x) := Lib.hid (fun wr hb => cfcells (blk_on hb n1'))
  have HF : Hid (∀ wr, Below w2.heap.size w2 wr → wr.heap[E]? = some (.cells #[.int .i64 0, .int .i64 0, .int .i64 0, .int .i64 0] 33)) := Lib.hid (fun wr hb => blk_on hb n2)
  have lt : x.c.tasks.length = x.tasks.length := by simp [CfgV.c]
  have ll : x.c.lines.length = x.lines.length := by simp [CfgV.c]
  have et : ∀ k (hk : k < x.tasks.length), x.c.tasks[k]'(by omega) = x.tasks[k].t := fun k hk => by simp [CfgV.c]
  have el : ∀ k (hk : k < x.lines.length), x.c.lines[k]'(by omega) = x.lines[k].t := fun k hk => by simp [CfgV.c]
  have T0 := Lib.hid (fun (h : 64 < x.tasks.length) => HR.out.t0 (by rw [lt]; exact h))
  have T1 := Lib.hid (fun (h : x.tasks.length ≤ 64) k (hk : k < x.tasks.length) (h1 : ∀ j (hj : j < k) (hj' : j < x.tasks.length), (taskE x.tasks[j].t).1 = 0) a b (he : taskE x.tasks[k].t = (a, b)) hn => HR.out.t1 (by omega) k (by omega) (fun j hj => by rw [et j (by omega)]; exact h1 j hj (by omega)) a b (by rw [et k hk]; exact he) hn)
  have P1 := Lib.hid (fun (h : x.tasks.length ≤ 64) (h2 : ∀ j (hj : j < x.tasks.length), (taskE x.tasks[j].t).1 = 0) => part1_of (c := x.c) (by omega) (fun y hy => by
    obtain ⟨z, hz, rfl⟩ := List.mem_map.1 hy
    obtain ⟨j, hj, rfl⟩ := List.getElem_of_mem hz
    exact h2 j hj))
  have L0 := Lib.hid (fun hp (h : 16 < x.lines.length) => HR.out.l0 hp (by rw [ll]; exact h))
  have L1 := Lib.hid (fun hp (h : x.lines.length ≤ 16) k (hk : k < x.lines.length) (h1 : ∀ j (hj : j < k) (hj' : j < x.lines.length), (lineE x.lines[j].t).1 = 0) a b (he : lineE x.lines[k].t = (a, b)) hn => HR.out.l1 hp (by omega) k (by omega) (fun j hj => by rw [el j (by omega)]; exact h1 j hj (by omega)) a b (by rw [el k hk]; exact he) hn)
  have P2 := Lib.hid (fun (h : x.lines.length ≤ 16) (h2 : ∀ j (hj : j < x.lines.length), (lineE x.lines[j].t).1 = 0) => part2_of (c := x.c) (by omega) (fun y hy => by
    obtain ⟨z, hz, rfl⟩ := List.mem_map.1 hy
    obtain ⟨j, hj, rfl⟩ := List.getElem_of_mem hz
    exact h2 j hj))
  have hp3 : partE x.c 3 = (rangeE x.mtx 0 32, 0, 0) := rfl
  have hp4 : partE x.c 4 = eachE 32 (numE 0 255) x.sems := rfl
  have hp5 : partE x.c 5 = eachE 32 (numE 1 64) x.queues := rfl
  have hp6 : partE x.c 6 = eachE 32 (numE 0 ((x.sems.length : Int) - 1)) x.timers := rfl
  have hp7 : partE x.c 7 = (rangeE x.table 0 64, 0, 0) := rfl
  have hp8 : partE x.c 8 = (maskE x.mask x.lines.length, 0, 0) := by rw [← ll]; rfl
  have hp9 : partE x.c 9 = (rangeE x.charge 0 64, 0, 0) := rfl
  have HPs := Lib.hid (And.intro hp3 (And.intro hp4 (And.intro hp5 (And.intro hp6 (And.intro hp7 (And.intro hp8 hp9))))))
  have RR := Lib.hid HR.out.r
  have RO := Lib.hid HR.out.ok
  generalize partE x.c = P at *
  obtain ⟨tao, tcap, tasks, lao, lcap, lines, mtx, sao, scap, sems, qao, qcap, queues, mao, mcap, timers, table, mask, filter, charge, cycle, count⟩ := x
  unfold cfO cfCells at e1
  unfold cfV cfCells
  simp only at *
  clear HR s1 n1 b1 s2 n2 b2 n1' hD hE hs hk lt ll et el hp3 hp4 hp5 hp6 hp7 hp8 hp9 N1 N2
  go_enter Tryd.func11, Tryd.ntmps11
  go_upto_region 1 with fail
  rw [← e1, HD.out, ← e2, HE.out]
  clear e1 e2
  have BR : Hid (Below w2.heap.size w2 w2) := Lib.hid (Below.refl _ _)
  obtain ⟨c0, c1, c2, c3, c4, c5, c6, c7, c8, c9, c10, c11⟩ := HC.out w2 BR.out
  simp only at c0 c1 c2 c3 c4 c5 c6 c7 c8 c9 c10 c11
  by_cases h6 : 64 < tasks.length
  · have d : decide ((64 : Int) < (tasks.length : Int)) = true := by simp; omega
    obtain ⟨rfl, rfl, rfl, rfl⟩ := T0.out h6
    clear T0 T1 P1 L0 L1 P2 HPs RR RO
    clear h6
    go_wp2_with fail
    refine (fault_any 4 1 0 0 w2).mono ?_
    rintro r wz ⟨rfl, hz⟩
    have nz := HF.out wz (below_on BR.out hz)
    obtain ⟨f0, f1, f2, f3, g0, g1, g2, g3⟩ := fltcells nz
    have NZ := Lib.hid nz
    have BZ := Lib.hid (below_on B2.out (below_on BR.out hz))
    clear hz nz c0 c1 c2 c3 c4 c5 c6 c7 c8 c9 c10 c11
    go_wp2_with fail
    exact bodyPost_ret (ret_flt rfl rfl (flt_stored NZ.out)) rfl ⟨rfl, flt_below BZ.out HDE.out⟩
  have d : decide ((64 : Int) < (tasks.length : Int)) = false := by simp; omega
  have h7 : tasks.length ≤ 64 := by omega
  go_wp2_with fail
  clear h6 d c0 c1 c2 c3 c4 c5 c6 c7 c8 c9 c10 c11
  go_loopw [3] (fun x wr => ∃ k : Nat, x = .int .i64 k ∧ k ≤ tasks.length ∧ Hid (Below w2.heap.size w2 wr) ∧ Hid (∀ j (hj : j < k) (hj' : j < tasks.length), (taskE tasks[j].t).1 = 0)) (fun x _ => tasks.length - (intOf x).toNat)
  case atStart => exact ⟨0, rfl, Nat.zero_le _, BR, Lib.hid (fun j hj => absurd hj (by omega))⟩
  case round =>
  obtain ⟨k, rfl, hk, B3, A1⟩ := hrel
  obtain ⟨c0, c1, c2, c3, c4, c5, c6, c7, c8, c9, c10, c11⟩ := HC.out wr B3.out
  simp only at c0 c1 c2 c3 c4 c5 c6 c7 c8 c9 c10 c11
  by_cases hlt : k < tasks.length
  · obtain ⟨b, off, rfl, -, a6, i6⟩ := (H2.out.ts.below B3.out).at k hlt
    have hkk := HK.out.tk tasks[k] (List.getElem_mem hlt)
    have H3 := Lib.hid (fun a b he hn => T1.out h7 k hlt (fun j hj hj' => A1.out j hj hj') a b he hn)
    have A2 : Hid ((taskE tasks[k].t).1 = 0 → ∀ j (hj : j < k + 1) (hj' : j < tasks.length), (taskE tasks[j].t).1 = 0) := Lib.hid (fun h j hj hj' => by
      by_cases e : j = k
      · subst e; exact h
      · exact A1.out j (by omega) hj')
    have HL : Hid (tasks.length = tasks.length) := Lib.hid rfl
    obtain ⟨w3, e3⟩ : ∃ w3, w3 = wr.alloc (tskO tasks[k]) := ⟨_, rfl⟩
    obtain ⟨s3, n3, b3⟩ := new_size e3
    have HCode := Lib.hid (rcode_any tasks[k].ao tasks[k].cap tasks[k].t.code false w3 (i6.below b3) hkk)
    have hcb := codeP_bounds false tasks[k].t.code
    have hq1 := Lib.hid (@codeP_first 6 false tasks[k].t.code)
    have hq2 := Lib.hid (@codeP_then 6 false tasks[k].t.code)
    have E1 := Lib.hid (@taskE_1 tasks[k].t)
    have E2 := Lib.hid (@taskE_2 tasks[k].t)
    have E3 := Lib.hid (@taskE_3 tasks[k].t)
    have E4 := Lib.hid (@taskE_4 tasks[k].t)
    have E5 := Lib.hid (@taskE_5 tasks[k].t)
    have E6 := Lib.hid (@taskE_6 tasks[k].t)
    generalize codeE 6 false tasks[k].t.code = RC at *
    generalize codeP false tasks[k].t.code = RP at *
    generalize taskE tasks[k].t = RT at *
    generalize tasks[k] = e at *
    obtain ⟨⟨lv, ot, pd, dl, mm, code⟩, ao', cap'⟩ := e
    obtain ⟨t0, t1, t2, t3, t4, t5⟩ := a6
    have n3s := n3
    obtain ⟨F, hF⟩ : ∃ F, wr.heap.size = F := ⟨_, rfl⟩
    rw [hF] at n3s
    obtain ⟨d0, d1, d2, d3, d4, d5⟩ := tskcells n3s
    unfold tskO at e3
    simp only at *
    have HFF := Lib.hid hF
    have B4 := Lib.hid (below_on B3.out b3)
    have hkI : (k : Int) < (tasks.length : Int) := by omega
    have hkO : (0 : Int) ≤ (k : Int) := by omega
    obtain ⟨RP1, RP2⟩ := RP
    simp only at hcb hq1 hq2 HCode
    obtain ⟨hcb0, hcb1⟩ := hcb
    clear s3 n3 b3 n3s hF hkk A1 i6 HL T0 T1 P1 L0 L1 P2 HPs RR RO
    have HO1 := Lib.hid (out_any lv 0 31 w3)
    have HO2 := Lib.hid (out_any ot 1 1073741824 w3)
    have HO3 := Lib.hid (out_any pd 0 1073741824 w3)
    have HO4 := Lib.hid (out_any dl 0 1073741824 w3)
    have HO5 := Lib.hid (out_any mm 0 256 w3)
    generalize outB lv 0 31 = o1 at *
    generalize outB ot 1 1073741824 = o2 at *
    generalize outB pd 0 1073741824 = o3 at *
    generalize outB dl 0 1073741824 = o4 at *
    generalize outB mm 0 256 = o5 at *
    go_upto_region 7 with fail
    rw [← e3, HFF.out]
    clear e3 t0 t1 t2 t3 t4 t5 c0 c1 c2 c3 c4 c5 c6 c7 c8 c9 c10 c11
    go_wp2_with fail
    refine HO1.out.mono ?_
    rintro r wy ⟨rfl, rfl⟩
    clear HO1
    cases o1
    case true =>
      obtain ⟨rfl, rfl, rfl, rfl⟩ := H3.out 5 1 (E1.out (by simp)) (by decide)
      clear H3 A2 E1 E2 E3 E4 E5 E6 HCode hq1 hq2
      go_wp2_with fail
      refine (fault_any 5 1 _ 1 w3).mono ?_
      rintro r wz ⟨rfl, hz⟩
      have nz := HF.out wz (below_on B4.out hz)
      obtain ⟨f0, f1, f2, f3, g0, g1, g2, g3⟩ := fltcells nz
      have NZ := Lib.hid nz
      have BZ := Lib.hid (below_on B2.out (below_on B4.out hz))
      clear hz nz
      go_wp2_with fail
      exact bodyPost_ret (ret_flt rfl rfl (flt_stored NZ.out)) rfl ⟨rfl, flt_below BZ.out HDE.out⟩
    go_wp2_with fail
    refine HO2.out.mono ?_
    rintro r wy ⟨rfl, rfl⟩
    clear HO2
    cases o2
    case true =>
      obtain ⟨rfl, rfl, rfl, rfl⟩ := H3.out 5 2 (E2.out (by simp) (by simp)) (by decide)
      clear H3 A2 E1 E2 E3 E4 E5 E6 HCode hq1 hq2
      go_wp2_with fail
      refine (fault_any 5 1 _ 2 w3).mono ?_
      rintro r wz ⟨rfl, hz⟩
      have nz := HF.out wz (below_on B4.out hz)
      obtain ⟨f0, f1, f2, f3, g0, g1, g2, g3⟩ := fltcells nz
      have NZ := Lib.hid nz
      have BZ := Lib.hid (below_on B2.out (below_on B4.out hz))
      clear hz nz
      go_wp2_with fail
      exact bodyPost_ret (ret_flt rfl rfl (flt_stored NZ.out)) rfl ⟨rfl, flt_below BZ.out HDE.out⟩
    go_wp2_with fail
    refine HO3.out.mono ?_
    rintro r wy ⟨rfl, rfl⟩
    clear HO3
    cases o3
    case true =>
      obtain ⟨rfl, rfl, rfl, rfl⟩ := H3.out 5 3 (E3.out (by simp) (by simp) (by simp)) (by decide)
      clear H3 A2 E1 E2 E3 E4 E5 E6 HCode hq1 hq2
      go_wp2_with fail
      refine (fault_any 5 1 _ 3 w3).mono ?_
      rintro r wz ⟨rfl, hz⟩
      have nz := HF.out wz (below_on B4.out hz)
      obtain ⟨f0, f1, f2, f3, g0, g1, g2, g3⟩ := fltcells nz
      have NZ := Lib.hid nz
      have BZ := Lib.hid (below_on B2.out (below_on B4.out hz))
      clear hz nz
      go_wp2_with fail
      exact bodyPost_ret (ret_flt rfl rfl (flt_stored NZ.out)) rfl ⟨rfl, flt_below BZ.out HDE.out⟩
    go_wp2_with fail
    refine HO4.out.mono ?_
    rintro r wy ⟨rfl, rfl⟩
    clear HO4
    cases o4
    case true =>
      obtain ⟨rfl, rfl, rfl, rfl⟩ := H3.out 5 4 (E4.out (by simp) (by simp) (by simp) (by simp)) (by decide)
      clear H3 A2 E1 E2 E3 E4 E5 E6 HCode hq1 hq2
      go_wp2_with fail
      refine (fault_any 5 1 _ 4 w3).mono ?_
      rintro r wz ⟨rfl, hz⟩
      have nz := HF.out wz (below_on B4.out hz)
      obtain ⟨f0, f1, f2, f3, g0, g1, g2, g3⟩ := fltcells nz
      have NZ := Lib.hid nz
      have BZ := Lib.hid (below_on B2.out (below_on B4.out hz))
      clear hz nz
      go_wp2_with fail
      exact bodyPost_ret (ret_flt rfl rfl (flt_stored NZ.out)) rfl ⟨rfl, flt_below BZ.out HDE.out⟩
    go_wp2_with fail
    refine HO5.out.mono ?_
    rintro r wy ⟨rfl, rfl⟩
    clear HO5
    cases o5
    case true =>
      obtain ⟨rfl, rfl, rfl, rfl⟩ := H3.out 5 5 (E5.out (by simp) (by simp) (by simp) (by simp) (by simp)) (by decide)
      clear H3 A2 E1 E2 E3 E4 E5 E6 HCode hq1 hq2
      go_wp2_with fail
      refine (fault_any 5 1 _ 5 w3).mono ?_
      rintro r wz ⟨rfl, hz⟩
      have nz := HF.out wz (below_on B4.out hz)
      obtain ⟨f0, f1, f2, f3, g0, g1, g2, g3⟩ := fltcells nz
      have NZ := Lib.hid nz
      have BZ := Lib.hid (below_on B2.out (below_on B4.out hz))
      clear hz nz
      go_wp2_with fail
      exact bodyPost_ret (ret_flt rfl rfl (flt_stored NZ.out)) rfl ⟨rfl, flt_below BZ.out HDE.out⟩
    have HT := Lib.hid (E6.out (by simp) (by simp) (by simp) (by simp) (by simp))
    clear E1 E2 E3 E4 E5 E6
    go_wp2_with fail
    refine HCode.out.mono ?_
    rintro r w4 ⟨rfl, h4⟩
    have B5 := Lib.hid (below_on B4.out h4)
    clear h4 HCode d0 d1 d2 d3 d4 d5
    by_cases hE : RP1 = 0
    · have A3 := Lib.hid (A2.out (by rw [HT.out, hq1.out hE]))
      subst hE
      clear A2 H3 hq1 hq2 HT
      go_wp2_with fail
      go_roundw
      case rel => exact ⟨k + 1, by go_num, hlt, B5, A3⟩
      case measure => simp [intOf]; omega
    · have hE' : (RP1 != 0) = true := by simp [hE]
      obtain ⟨rfl, rfl, rfl, rfl⟩ := H3.out _ _ (HT.out.trans (hq2.out hE)) hE
      clear A2 H3 hq1 hq2 HT hE
      go_wp2_with fail
      refine (fault_any _ 1 _ _ w4).mono ?_
      rintro r wz ⟨rfl, hz⟩
      have nz := HF.out wz (below_on B5.out hz)
      obtain ⟨f0, f1, f2, f3, g0, g1, g2, g3⟩ := fltcells nz
      have NZ := Lib.hid nz
      have BZ := Lib.hid (below_on B2.out (below_on B5.out hz))
      clear hz nz
      go_wp2_with fail
      exact bodyPost_ret (ret_flt rfl rfl (flt_stored NZ.out)) rfl ⟨rfl, flt_below BZ.out HDE.out⟩
  obtain rfl : k = tasks.length := by omega
  have Q1 := Lib.hid (P1.out h7 (fun j hj => A1.out j hj hj))
  clear A1 T0 T1 P1 hlt hk
  by_cases h6 : 16 < lines.length
  · have d : decide ((16 : Int) < (lines.length : Int)) = true := by simp; omega
    obtain ⟨rfl, rfl, rfl, rfl⟩ := L0.out Q1.out h6
    clear L0 L1 P2 HPs RR RO h6
    go_wp2_with fail
    refine (fault_any 4 2 0 0 wr).mono ?_
    rintro r wz ⟨rfl, hz⟩
    have nz := HF.out wz (below_on B3.out hz)
    obtain ⟨f0, f1, f2, f3, g0, g1, g2, g3⟩ := fltcells nz
    have NZ := Lib.hid nz
    have BZ := Lib.hid (below_on B2.out (below_on B3.out hz))
    clear hz nz c0 c1 c2 c3 c4 c5 c6 c7 c8 c9 c10 c11
    go_wp2_with fail
    exact bodyPost_ret (ret_flt rfl rfl (flt_stored NZ.out)) rfl ⟨rfl, flt_below BZ.out HDE.out⟩
  have d : decide ((16 : Int) < (lines.length : Int)) = false := by simp; omega
  have h8 : lines.length ≤ 16 := by omega
  go_wp2_with fail
  clear h6 d c0 c1 c2 c3 c4 c5 c6 c7 c8 c9 c10 c11
  go_loopw [7] (fun x wr => ∃ k : Nat, x = .int .i64 k ∧ k ≤ lines.length ∧ Hid (Below w2.heap.size w2 wr) ∧ Hid (∀ j (hj : j < k) (hj' : j < lines.length), (lineE lines[j].t).1 = 0)) (fun x _ => lines.length - (intOf x).toNat)
  case atStart => exact ⟨0, rfl, Nat.zero_le _, B3, Lib.hid (fun j hj => absurd hj (by omega))⟩
  clear B3
  case round =>
  obtain ⟨k, rfl, hk, B3, A1⟩ := hrel
  obtain ⟨c0, c1, c2, c3, c4, c5, c6, c7, c8, c9, c10, c11⟩ := HC.out wr B3.out
  simp only at c0 c1 c2 c3 c4 c5 c6 c7 c8 c9 c10 c11
  by_cases hlt : k < lines.length
  · obtain ⟨b, off, rfl, -, a6, i6⟩ := (H2.out.ls.below B3.out).at k hlt
    have hkk := HK.out.lk lines[k] (List.getElem_mem hlt)
    have H3 := Lib.hid (fun a b he hn => L1.out Q1.out h8 k hlt (fun j hj hj' => A1.out j hj hj') a b he hn)
    have A2 : Hid ((lineE lines[k].t).1 = 0 → ∀ j (hj : j < k + 1) (hj' : j < lines.length), (lineE lines[j].t).1 = 0) := Lib.hid (fun h j hj hj' => by
      by_cases e : j = k
      · subst e; exact h
      · exact A1.out j (by omega) hj')
    have HCode := Lib.hid (rcode_any lines[k].ao lines[k].cap lines[k].t.code true wr i6 hkk)
    have hcb := codeP_bounds true lines[k].t.code
    have hq1 := Lib.hid (@codeP_first 2 true lines[k].t.code)
    have hq2 := Lib.hid (@codeP_then 2 true lines[k].t.code)
    have E1 := Lib.hid (@lineE_1 lines[k].t)
    have E6 := Lib.hid (@lineE_2 lines[k].t)
    generalize codeE 2 true lines[k].t.code = RC at *
    generalize codeP true lines[k].t.code = RP at *
    generalize lineE lines[k].t = RT at *
    generalize lines[k] = e at *
    obtain ⟨⟨mm, code⟩, ao', cap'⟩ := e
    obtain ⟨t0, t1⟩ := a6
    simp only at *
    have hkI : (k : Int) < (lines.length : Int) := by omega
    have hkO : (0 : Int) ≤ (k : Int) := by omega
    obtain ⟨RP1, RP2⟩ := RP
    simp only at hcb hq1 hq2 HCode
    obtain ⟨hcb0, hcb1⟩ := hcb
    clear hkk A1 i6 L0 L1 P2 HPs RR RO
    have HO1 := Lib.hid (out_any mm 0 256 wr)
    generalize outB mm 0 256 = o1 at *
    go_wp2_with fail
    refine HO1.out.mono ?_
    rintro r wy ⟨rfl, rfl⟩
    clear HO1
    cases o1
    case true =>
      obtain ⟨rfl, rfl, rfl, rfl⟩ := H3.out 5 1 (E1.out (by simp)) (by decide)
      clear H3 A2 E1 E6 HCode hq1 hq2
      go_wp2_with fail
      refine (fault_any 5 2 _ 1 wr).mono ?_
      rintro r wz ⟨rfl, hz⟩
      have nz := HF.out wz (below_on B3.out hz)
      obtain ⟨f0, f1, f2, f3, g0, g1, g2, g3⟩ := fltcells nz
      have NZ := Lib.hid nz
      have BZ := Lib.hid (below_on B2.out (below_on B3.out hz))
      clear hz nz c0 c1 c2 c3 c4 c5 c6 c7 c8 c9 c10 c11
      go_wp2_with fail
      exact bodyPost_ret (ret_flt rfl rfl (flt_stored NZ.out)) rfl ⟨rfl, flt_below BZ.out HDE.out⟩
    have HT := Lib.hid (E6.out (by simp))
    clear E1 E6
    go_wp2_with fail
    refine HCode.out.mono ?_
    rintro r w4 ⟨rfl, h4⟩
    have B5 := Lib.hid (below_on B3.out h4)
    clear h4 HCode t0 t1 c0 c1 c2 c3 c4 c5 c6 c7 c8 c9 c10 c11
    by_cases hE : RP1 = 0
    · have A3 := Lib.hid (A2.out (by rw [HT.out, hq1.out hE]))
      subst hE
      clear A2 H3 hq1 hq2 HT
      go_wp2_with fail
      go_roundw
      case rel => exact ⟨k + 1, by go_num, hlt, B5, A3⟩
      case measure => simp [intOf]; omega
    · have hE' : (RP1 != 0) = true := by simp [hE]
      obtain ⟨rfl, rfl, rfl, rfl⟩ := H3.out _ _ (HT.out.trans (hq2.out hE)) hE
      clear A2 H3 hq1 hq2 HT hE
      go_wp2_with fail
      refine (fault_any _ 2 _ _ w4).mono ?_
      rintro r wz ⟨rfl, hz⟩
      have nz := HF.out wz (below_on B5.out hz)
      obtain ⟨f0, f1, f2, f3, g0, g1, g2, g3⟩ := fltcells nz
      have NZ := Lib.hid nz
      have BZ := Lib.hid (below_on B2.out (below_on B5.out hz))
      clear hz nz
      go_wp2_with fail
      exact bodyPost_ret (ret_flt rfl rfl (flt_stored NZ.out)) rfl ⟨rfl, flt_below BZ.out HDE.out⟩
  obtain rfl : k = lines.length := by omega
  have Q2 := Lib.hid (P2.out h8 (fun j hj => A1.out j hj hj))
  clear A1 L0 L1 P2 hlt hk
  have U3 : Hid (∀ q, 1 ≤ q → q < 3 → (P q).1 = 0) := Lib.hid (fun q g1 g2 => by
    rcases (show q = 1 ∨ q = 2 by omega) with rfl | rfl
    · exact Q1.out
    · exact Q2.out)
  obtain ⟨hp3, hp4, hp5, hp6, hp7, hp8, hp9⟩ := HPs.out
  have hp3 := Lib.hid hp3
  have hp4 := Lib.hid hp4
  have hp5 := Lib.hid hp5
  have hp6 := Lib.hid hp6
  have hp7 := Lib.hid hp7
  have hp8 := Lib.hid hp8
  have hp9 := Lib.hid hp9
  clear HPs Q1 Q2
  have HO := Lib.hid (out_any mtx 0 32 wr)
  have O1 := Lib.hid (@out_t mtx 0 32)
  have O2 := Lib.hid (@out_f mtx 0 32)
  have O5 : Hid (rangeE mtx 0 32 ≠ 0 → rangeE mtx 0 32 = 5) := Lib.hid range_five
  generalize outB mtx 0 32 = ob at *
  generalize rangeE mtx 0 32 = X at *
  go_wp2_with fail
  refine HO.out.mono ?_
  rintro r wy ⟨rfl, rfl⟩
  clear HO
  cases ob
  case true =>
    have hX := O1.out (by simp)
    obtain rfl := O5.out hX
    obtain ⟨rfl, rfl, rfl, rfl⟩ := RR.out 3 (by decide) (by decide) U3.out _ _ _ hp3.out (by decide)
    clear O1 O2 O5 hX RR RO
    go_wp2_with fail
    refine (fault_any 5 3 0 0 wr).mono ?_
    rintro r wz ⟨rfl, hz⟩
    have nz := HF.out wz (below_on B3.out hz)
    obtain ⟨f0, f1, f2, f3, g0, g1, g2, g3⟩ := fltcells nz
    have NZ := Lib.hid nz
    have BZ := Lib.hid (below_on B2.out (below_on B3.out hz))
    clear hz nz c0 c1 c2 c3 c4 c5 c6 c7 c8 c9 c10 c11
    go_wp2_with fail
    exact bodyPost_ret (ret_flt rfl rfl (flt_stored NZ.out)) rfl ⟨rfl, flt_below BZ.out HDE.out⟩
  have U4 := Lib.hid (upto_next U3.out (show (P 3).1 = 0 by rw [hp3.out]; exact O2.out (by simp)))
  clear O1 O2 O5 U3
  have HW := Lib.hid (rrow_any sao scap sems 4 0 255 wr (H2.out.ss.below B3.out))
  unfold fltV fltE at HW
  generalize eachE 32 (numE 0 255) sems = Q at *
  obtain ⟨Q1, Q2, Q3⟩ := Q
  simp only at HW
  by_cases hQ : Q1 = 0
  case neg =>
    rw [if_neg hQ] at HW
    have hQ' : (Q1 != 0) = true := by simp [hQ]
    obtain ⟨rfl, rfl, rfl, rfl⟩ := RR.out 4 (by decide) (by decide) U4.out _ _ _ hp4.out hQ
    clear RR RO hQ
    go_wp2_with fail
    refine HW.out.mono ?_
    rintro r wa4 ⟨rfl, h4⟩
    obtain ⟨wb4, e5⟩ : ∃ wb4, wb4 = wa4.alloc (.cells #[.int .i64 R1, .int .i64 4, .int .i64 R3, .int .i64 R4] 33) := ⟨_, rfl⟩
    obtain ⟨s5, n5, b5⟩ := new_size e5
    obtain ⟨G, hG⟩ : ∃ G, wa4.heap.size = G := ⟨_, rfl⟩
    rw [hG] at n5
    obtain ⟨v0, v1, v2, v3, -⟩ := fltcells n5
    have B4 := Lib.hid (below_on (below_on B3.out h4) b5)
    have HG := Lib.hid hG
    clear h4 s5 n5 b5 hG HW c0 c1 c2 c3 c4 c5 c6 c7 c8 c9 c10 c11
    go_upto_region 33 with fail
    rw [← e5, HG.out]
    clear e5
    have nz := HF.out wb4 B4.out
    obtain ⟨f0, f1, f2, f3, g0, g1, g2, g3⟩ := fltcells nz
    have NZ := Lib.hid nz
    have BZ := Lib.hid (below_on B2.out B4.out)
    clear nz
    go_wp2_with fail
    exact bodyPost_ret (ret_flt rfl rfl (flt_stored NZ.out)) rfl ⟨rfl, flt_below BZ.out HDE.out⟩
  subst hQ
  rw [if_pos rfl] at HW
  have U5 := Lib.hid (upto_next U4.out (show (P 4).1 = 0 by rw [hp4.out]))
  clear U4
  go_wp2_with fail
  refine HW.out.mono ?_
  rintro r wa4 ⟨rfl, h4⟩
  obtain ⟨wb4, e5⟩ : ∃ wb4, wb4 = wa4.alloc (.cells #[.int .i64 0, .int .i64 0, .int .i64 0, .int .i64 0] 33) := ⟨_, rfl⟩
  obtain ⟨s5, n5, b5⟩ := new_size e5
  obtain ⟨G, hG⟩ : ∃ G, wa4.heap.size = G := ⟨_, rfl⟩
  rw [hG] at n5
  obtain ⟨v0, v1, v2, v3, -⟩ := fltcells n5
  have B4 := Lib.hid (below_on (below_on B3.out h4) b5)
  have HG := Lib.hid hG
  clear h4 s5 n5 b5 hG HW c0 c1 c2 c3 c4 c5 c6 c7 c8 c9 c10 c11
  go_upto_region 33 with fail
  rw [← e5, HG.out]
  clear e5
  obtain ⟨c0, c1, c2, c3, c4, c5, c6, c7, c8, c9, c10, c11⟩ := HC.out wb4 B4.out
  simp only at c0 c1 c2 c3 c4 c5 c6 c7 c8 c9 c10 c11
  have HW := Lib.hid (rrow_any qao qcap queues 5 1 64 wb4 (H2.out.qs.below B4.out))
  unfold fltV fltE at HW
  generalize eachE 32 (numE 1 64) queues = Q at *
  obtain ⟨Q1, Q2, Q3⟩ := Q
  simp only at HW
  by_cases hQ : Q1 = 0
  case neg =>
    rw [if_neg hQ] at HW
    have hQ' : (Q1 != 0) = true := by simp [hQ]
    obtain ⟨rfl, rfl, rfl, rfl⟩ := RR.out 5 (by decide) (by decide) U5.out _ _ _ hp5.out hQ
    clear RR RO hQ
    go_wp2_with fail
    refine HW.out.mono ?_
    rintro r wa5 ⟨rfl, h4⟩
    obtain ⟨wb5, e5⟩ : ∃ wb5, wb5 = wa5.alloc (.cells #[.int .i64 R1, .int .i64 5, .int .i64 R3, .int .i64 R4] 33) := ⟨_, rfl⟩
    obtain ⟨s5, n5, b5⟩ := new_size e5
    obtain ⟨G, hG⟩ : ∃ G, wa5.heap.size = G := ⟨_, rfl⟩
    rw [hG] at n5
    obtain ⟨v0, v1, v2, v3, -⟩ := fltcells n5
    have B5 := Lib.hid (below_on (below_on B4.out h4) b5)
    have HG := Lib.hid hG
    clear h4 s5 n5 b5 hG HW c0 c1 c2 c3 c4 c5 c6 c7 c8 c9 c10 c11
    go_upto_region 36 with fail
    rw [← e5, HG.out]
    clear e5
    have nz := HF.out wb5 B5.out
    obtain ⟨f0, f1, f2, f3, g0, g1, g2, g3⟩ := fltcells nz
    have NZ := Lib.hid nz
    have BZ := Lib.hid (below_on B2.out B5.out)
    clear nz
    go_wp2_with fail
    exact bodyPost_ret (ret_flt rfl rfl (flt_stored NZ.out)) rfl ⟨rfl, flt_below BZ.out HDE.out⟩
  subst hQ
  rw [if_pos rfl] at HW
  have U6 := Lib.hid (upto_next U5.out (show (P 5).1 = 0 by rw [hp5.out]))
  clear U5
  go_wp2_with fail
  refine HW.out.mono ?_
  rintro r wa5 ⟨rfl, h4⟩
  obtain ⟨wb5, e5⟩ : ∃ wb5, wb5 = wa5.alloc (.cells #[.int .i64 0, .int .i64 0, .int .i64 0, .int .i64 0] 33) := ⟨_, rfl⟩
  obtain ⟨s5, n5, b5⟩ := new_size e5
  obtain ⟨G, hG⟩ : ∃ G, wa5.heap.size = G := ⟨_, rfl⟩
  rw [hG] at n5
  obtain ⟨v0, v1, v2, v3, -⟩ := fltcells n5
  have B5 := Lib.hid (below_on (below_on B4.out h4) b5)
  have HG := Lib.hid hG
  clear h4 s5 n5 b5 hG HW c0 c1 c2 c3 c4 c5 c6 c7 c8 c9 c10 c11
  go_upto_region 36 with fail
  rw [← e5, HG.out]
  clear e5
  obtain ⟨c0, c1, c2, c3, c4, c5, c6, c7, c8, c9, c10, c11⟩ := HC.out wb5 B5.out
  simp only at c0 c1 c2 c3 c4 c5 c6 c7 c8 c9 c10 c11
  have HW := Lib.hid (rrow_any mao mcap timers 6 0 ((sems.length : Int) - 1) wb5 (H2.out.ms.below B5.out))
  unfold fltV fltE at HW
  generalize eachE 32 (numE 0 ((sems.length : Int) - 1)) timers = Q at *
  obtain ⟨Q1, Q2, Q3⟩ := Q
  simp only at HW
  by_cases hQ : Q1 = 0
  case neg =>
    rw [if_neg hQ] at HW
    have hQ' : (Q1 != 0) = true := by simp [hQ]
    obtain ⟨rfl, rfl, rfl, rfl⟩ := RR.out 6 (by decide) (by decide) U6.out _ _ _ hp6.out hQ
    clear RR RO hQ
    go_wp2_with fail
    refine HW.out.mono ?_
    rintro r wa6 ⟨rfl, h4⟩
    obtain ⟨wb6, e5⟩ : ∃ wb6, wb6 = wa6.alloc (.cells #[.int .i64 R1, .int .i64 6, .int .i64 R3, .int .i64 R4] 33) := ⟨_, rfl⟩
    obtain ⟨s5, n5, b5⟩ := new_size e5
    obtain ⟨G, hG⟩ : ∃ G, wa6.heap.size = G := ⟨_, rfl⟩
    rw [hG] at n5
    obtain ⟨v0, v1, v2, v3, -⟩ := fltcells n5
    have B6 := Lib.hid (below_on (below_on B5.out h4) b5)
    have HG := Lib.hid hG
    clear h4 s5 n5 b5 hG HW c0 c1 c2 c3 c4 c5 c6 c7 c8 c9 c10 c11
    go_upto_region 39 with fail
    rw [← e5, HG.out]
    clear e5
    have nz := HF.out wb6 B6.out
    obtain ⟨f0, f1, f2, f3, g0, g1, g2, g3⟩ := fltcells nz
    have NZ := Lib.hid nz
    have BZ := Lib.hid (below_on B2.out B6.out)
    clear nz
    go_wp2_with fail
    exact bodyPost_ret (ret_flt rfl rfl (flt_stored NZ.out)) rfl ⟨rfl, flt_below BZ.out HDE.out⟩
  subst hQ
  rw [if_pos rfl] at HW
  have U7 := Lib.hid (upto_next U6.out (show (P 6).1 = 0 by rw [hp6.out]))
  clear U6
  go_wp2_with fail
  refine HW.out.mono ?_
  rintro r wa6 ⟨rfl, h4⟩
  obtain ⟨wb6, e5⟩ : ∃ wb6, wb6 = wa6.alloc (.cells #[.int .i64 0, .int .i64 0, .int .i64 0, .int .i64 0] 33) := ⟨_, rfl⟩
  obtain ⟨s5, n5, b5⟩ := new_size e5
  obtain ⟨G, hG⟩ : ∃ G, wa6.heap.size = G := ⟨_, rfl⟩
  rw [hG] at n5
  obtain ⟨v0, v1, v2, v3, -⟩ := fltcells n5
  have B6 := Lib.hid (below_on (below_on B5.out h4) b5)
  have HG := Lib.hid hG
  clear h4 s5 n5 b5 hG HW c0 c1 c2 c3 c4 c5 c6 c7 c8 c9 c10 c11
  go_upto_region 39 with fail
  rw [← e5, HG.out]
  clear e5
  obtain ⟨c0, c1, c2, c3, c4, c5, c6, c7, c8, c9, c10, c11⟩ := HC.out wb6 B6.out
  simp only at c0 c1 c2 c3 c4 c5 c6 c7 c8 c9 c10 c11
  have HO := Lib.hid (out_any table 0 64 wb6)
  have O1 := Lib.hid (@out_t table 0 64)
  have O2 := Lib.hid (@out_f table 0 64)
  have O5 : Hid (rangeE table 0 64 ≠ 0 → rangeE table 0 64 = 5) := Lib.hid range_five
  generalize outB table 0 64 = ob at *
  generalize rangeE table 0 64 = X at *
  go_wp2_with fail
  refine HO.out.mono ?_
  rintro r wy ⟨rfl, rfl⟩
  clear HO
  cases ob
  case true =>
    have hX := O1.out (by simp)
    obtain rfl := O5.out hX
    obtain ⟨rfl, rfl, rfl, rfl⟩ := RR.out 7 (by decide) (by decide) U7.out _ _ _ hp7.out (by decide)
    clear O1 O2 O5 hX RR RO
    go_wp2_with fail
    refine (fault_any 5 7 0 0 wb6).mono ?_
    rintro r wz ⟨rfl, hz⟩
    have nz := HF.out wz (below_on B6.out hz)
    obtain ⟨f0, f1, f2, f3, g0, g1, g2, g3⟩ := fltcells nz
    have NZ := Lib.hid nz
    have BZ := Lib.hid (below_on B2.out (below_on B6.out hz))
    clear hz nz c0 c1 c2 c3 c4 c5 c6 c7 c8 c9 c10 c11
    go_wp2_with fail
    exact bodyPost_ret (ret_flt rfl rfl (flt_stored NZ.out)) rfl ⟨rfl, flt_below BZ.out HDE.out⟩
  have U8 := Lib.hid (upto_next U7.out (show (P 7).1 = 0 by rw [hp7.out]; exact O2.out (by simp)))
  clear O1 O2 O5 U7
  have hma := HK.out.ma
  simp only at hma
  go_wp2_with fail
  go_loopw [13, 14] (fun x y wr => ∃ k : Nat, x = .int .u32 ((mask / 2 ^ k : Nat) : Int) ∧ y = .int .i64 k ∧ k ≤ lines.length ∧ Hid (wr = wb6)) (fun _ y _ => lines.length - (intOf y).toNat)
  case atStart => exact ⟨0, by simp, rfl, Nat.zero_le _, Lib.hid rfl⟩
  case round =>
  obtain ⟨k, rfl, rfl, hk, hww⟩ := hrel
  have hw2 := hww.out
  obtain rfl := hw2.symm
  clear hww hw2
  by_cases hlt : k < lines.length
  · have hdiv : ((mask / 2 ^ k : Nat) : Int).tdiv 2 % 4294967296 = ((mask / 2 ^ (k + 1) : Nat) : Int) := mask_half mask k hma
    have HDv := Lib.hid hdiv
    generalize ((mask / 2 ^ k : Nat) : Int) = M at *
    have hkI : (k : Int) < (lines.length : Int) := by omega
    have hkO : (0 : Int) ≤ (k : Int) := by omega
    clear hdiv
    go_wp2_with fail
    go_roundw
    case rel => exact ⟨k + 1, by rw [HDv.out], by go_num, hlt, Lib.hid trivial⟩
    case measure => simp [intOf]; omega
  obtain rfl : k = lines.length := by omega
  have hM : (maskE mask lines.length = 0 ∧ mask / 2 ^ lines.length = 0) ∨ (maskE mask lines.length = 5 ∧ mask / 2 ^ lines.length ≠ 0) := by
    unfold maskE
    by_cases h : mask / 2 ^ lines.length = 0
    · exact .inl ⟨by rw [if_pos h], h⟩
    · exact .inr ⟨by rw [if_neg h], h⟩
  generalize maskE mask lines.length = X at *
  have hz : (((mask / 2 ^ lines.length : Nat) : Int) != 0) = (X != 0) := by
    rcases hM with ⟨rfl, h⟩ | ⟨rfl, h⟩
    · rw [h]; rfl
    · generalize mask / 2 ^ lines.length = q at h ⊢
      simpa using h
  have hX5 : X = 0 ∨ X = 5 := by rcases hM with ⟨h, -⟩ | ⟨h, -⟩ <;> simp [h]
  clear hM hlt hk hma
  generalize ((mask / 2 ^ lines.length : Nat) : Int) = M at *
  rcases hX5 with rfl | rfl
  case inr =>
    have hz' : (M != 0) = true := by rw [hz]; rfl
    obtain ⟨rfl, rfl, rfl, rfl⟩ := RR.out 8 (by decide) (by decide) U8.out _ _ _ hp8.out (by decide)
    clear RR RO hz
    go_wp2_with fail
    refine (fault_any 5 8 0 0 wb6).mono ?_
    rintro r wz ⟨rfl, hz⟩
    have nz := HF.out wz (below_on B6.out hz)
    obtain ⟨f0, f1, f2, f3, g0, g1, g2, g3⟩ := fltcells nz
    have NZ := Lib.hid nz
    have BZ := Lib.hid (below_on B2.out (below_on B6.out hz))
    clear hz nz c0 c1 c2 c3 c4 c5 c6 c7 c8 c9 c10 c11
    go_wp2_with fail
    exact bodyPost_ret (ret_flt rfl rfl (flt_stored NZ.out)) rfl ⟨rfl, flt_below BZ.out HDE.out⟩
  have hz' : (M != 0) = false := by rw [hz]; rfl
  have U9 := Lib.hid (upto_next U8.out (show (P 8).1 = 0 by rw [hp8.out]))
  clear U8 hz
  have HO := Lib.hid (out_any charge 0 64 wb6)
  have O1 := Lib.hid (@out_t charge 0 64)
  have O2 := Lib.hid (@out_f charge 0 64)
  have O5 : Hid (rangeE charge 0 64 ≠ 0 → rangeE charge 0 64 = 5) := Lib.hid range_five
  generalize outB charge 0 64 = ob at *
  generalize rangeE charge 0 64 = X at *
  go_wp2_with fail
  refine HO.out.mono ?_
  rintro r wy ⟨rfl, rfl⟩
  clear HO
  cases ob
  case true =>
    have hX := O1.out (by simp)
    obtain rfl := O5.out hX
    obtain ⟨rfl, rfl, rfl, rfl⟩ := RR.out 9 (by decide) (by decide) U9.out _ _ _ hp9.out (by decide)
    clear O1 O2 O5 hX RR RO
    go_wp2_with fail
    refine (fault_any 5 9 0 0 wb6).mono ?_
    rintro r wz ⟨rfl, hz⟩
    have nz := HF.out wz (below_on B6.out hz)
    obtain ⟨f0, f1, f2, f3, g0, g1, g2, g3⟩ := fltcells nz
    have NZ := Lib.hid nz
    have BZ := Lib.hid (below_on B2.out (below_on B6.out hz))
    clear hz nz c0 c1 c2 c3 c4 c5 c6 c7 c8 c9 c10 c11
    go_wp2_with fail
    exact bodyPost_ret (ret_flt rfl rfl (flt_stored NZ.out)) rfl ⟨rfl, flt_below BZ.out HDE.out⟩
  have U10 := Lib.hid (upto_next U9.out (show (P 9).1 = 0 by rw [hp9.out]; exact O2.out (by simp)))
  clear O1 O2 O5 U9
  obtain ⟨rfl, rfl, rfl, rfl⟩ := RO.out U10.out
  have nz := HF.out wb6 B6.out
  obtain ⟨f0, f1, f2, f3, g0, g1, g2, g3⟩ := fltcells nz
  have NZ := Lib.hid nz
  have BZ := Lib.hid (below_on B2.out B6.out)
  clear nz
  go_wp2_with fail
  exact bodyPost_ret (ret_flt rfl rfl (flt_stored NZ.out)) rfl ⟨rfl, flt_below BZ.out HDE.out⟩
theorem rcheckc_any (x : CfgV) (w : World) (hs : SeenC w x) (hk : CfK x) :
    Calls Tryd.prog 11 #[cfV x] w fun r w' => r = .returned (fltV (checkC x.c)) ∧ Below w.heap.size w w' := rcheckc_walk x _ _ _ _ w hs hk (Lib.hid (chkR x.c))

end Go.Proofs.YtbhnehacgkhpbaaDoor
