/-
  A copy of a system, over this seat's translation: the walk. Conditions: a system in memory, not more than the statements speak of.
-/
import Derived.Test.YtbhnehacgkhpbaaDoorCfD
namespace Go.Proofs.YtbhnehacgkhpbaaDoor
open Go Go.RowKit
set_option linter.unusedVariables false
set_option linter.unusedSimpArgs false

def zeroA : Array Value := #[.slice none 0 0, .slice none 0 0, .int .i64 0, .slice none 0 0, .slice none 0 0, .slice none 0 0, .int .i64 0, .int .u32 0, .int .u32 0, .int .i64 0, .int .u64 0, .int .u64 0]
theorem froz12 {w : World} {D : Nat} {cs : Array Value} (h : w.heap[D]? = some (.cells cs 28)) : ∀ j, w.frozen? ⟨D, j, none⟩ = false := fun j => frozen_row h j
/-- A field of the system's block is stored. -/
theorem box_store {w0 w w1 : World} {D E f : Nat} {v : Value} {box box' zero : Array Value} (hDE : E ≠ D) (hD0 : w0.heap.size ≤ D) (hb : Below w0.heap.size w0 w) (h : w.heap[D]? = some (.cells box 28)) (hz : w.heap[E]? = some (.cells zero 28))
    (e : w1 = w.setCell ⟨D, f, none⟩ v) (hbox : box.setIfInBounds f v = box') :
    Only w w1 (fun k => k = D) ∧ w1.heap[D]? = some (.cells box' 28) ∧ w1.heap[E]? = some (.cells zero 28) ∧ Below w0.heap.size w0 w1 := by
  subst e
  refine ⟨Only.setCell w D f v _ rfl, ?_, (heap_set_ne hDE).trans hz, ⟨hb.os, hb.tape, hb.output, by have := hb.size; simp; omega, fun k hk => (heap_set_ne (by omega)).trans (hb.block k hk)⟩⟩
  rw [← hbox]
  exact heap_setCell_same w D f _ _ _ h
theorem cfW_stored {w : World} {D : Nat} {a b c d e : Value} {mtx table : Int} {mask filter : Nat} {charge : Int} {cycle count : Nat} (h : w.heap[D]? = some (.cells zeroA 28)) :
    (stN w D 0 [a, b, .int .i64 mtx, c, d, e, .int .i64 table, .int .u32 (mask : Int), .int .u32 (filter : Int), .int .i64 charge, .int .u64 (cycle : Int), .int .u64 (count : Int)]).heap[D]? = some (.cells (cfW a b c d e mtx table mask filter charge cycle count) 28) := by
  have := stN_block [a, b, .int .i64 mtx, c, d, e, .int .i64 table, .int .u32 (mask : Int), .int .u32 (filter : Int), .int .i64 charge, .int .u64 (cycle : Int), .int .u64 (count : Int)] w 0 _ h
  have e1 : setsA zeroA 0 [a, b, .int .i64 mtx, c, d, e, .int .i64 table, .int .u32 (mask : Int), .int .u32 (filter : Int), .int .i64 charge, .int .u64 (cycle : Int), .int .u64 (count : Int)] = cfW a b c d e mtx table mask filter charge cycle count := by
    simp only [setsA, cfW, zeroA, List.setIfInBounds_toArray, List.set_cons_succ, List.set_cons_zero]
  rw [this, e1]
/-- What a function returns whose result is a system in a block. -/
theorem ret_cfg {fn : Func} {p : Tmp} (hr : fn.results = #[.cell p 28]) {tmps : Array Value} {D : Nat} {a b c d e : Value} {mtx table : Int} {mask filter : Nat} {charge : Int} {cycle count : Nat} {w : World} (ht : tmps.getD p undef = .pointer (some ⟨D, 0, none⟩))
    (hh : w.heap[D]? = some (.cells (cfW a b c d e mtx table mask filter charge cycle count) 28)) :
    (results fn tmps).run Tryd.prog w = .ok (.agg (cfW a b c d e mtx table mask filter charge cycle count)) w := by
  obtain ⟨c0, c1, c2, c3, c4, c5, c6, c7, c8, c9, c10, c11⟩ := cfW_cells hh
  rw [results_cell1 hr, ht]
  unfold cfW
  go_simp
/-- A system stored in its block. -/
theorem cf_stored {w : World} {D : Nat} (x : CfgV) (h : w.heap[D]? = some (.cells zeroA 28)) : (stN w D 0 (cfCells x).toList).heap[D]? = some (cfO x) := by
  have := stN_block (cfCells x).toList w 0 _ h
  have e : setsA zeroA 0 (cfCells x).toList = cfCells x := by simp only [setsA, cfCells, zeroA, List.setIfInBounds_toArray, List.set_cons_succ, List.set_cons_zero]
  rw [this, e]
  rfl

theorem SeenR.below' {α : Type} {n : Nat} {f : α → List Value} {w w1 : World} {ao : Option Addr} {cap : Nat} {l : List α} (h : SeenR n f w ao cap l) (hb : Below w.heap.size w w1) : SeenR n f w1 ao cap l := h.below hb

set_option maxRecDepth 100000 in
set_option maxHeartbeats 16000000 in
theorem copy_walk (x : CfgV) (w : World) (hs : SeenC w x) (hsm : Small x) :
    Calls Tryd.prog 12 #[cfV x] w fun r w' => ∃ y : CfgV, r = .returned (cfV y) ∧ y.c = x.c ∧ OwnC w' w.heap.size y ∧ Below w.heap.size w w' := by
  obtain ⟨w1, e1⟩ : ∃ w1, w1 = w.alloc (cfO x) := ⟨_, rfl⟩
  obtain ⟨s1, n1, b1⟩ := new_size e1
  obtain ⟨w2, e2⟩ : ∃ w2, w2 = w1.alloc (.cells zeroA 28) := ⟨_, rfl⟩
  obtain ⟨s2, n2, b2⟩ := new_size e2
  have n1' := blk_on b2 n1
  obtain ⟨B, hB⟩ : ∃ B, B = w.heap.size := ⟨_, rfl⟩
  obtain ⟨D, hD⟩ : ∃ D, w.heap.size = D := ⟨_, rfl⟩
  obtain ⟨E, hE⟩ : ∃ E, D + 1 = E := ⟨_, rfl⟩
  rw [hD] at n1'
  rw [s1, hD, hE] at n2
  have HDE := Lib.hid (show w.heap.size ≤ D ∧ w.heap.size ≤ E by omega)
  have H2 := hs.below (below_on b1 b2)
  have HS := Lib.hid hs
  have HB := Lib.hid hB
  have HSm := Lib.hid hsm
  have HD := Lib.hid hD
  have HE := Lib.hid hE
  have B2 := Lib.hid (below_on b1 b2)
  have m3 := hsm.t
  have m4 := hsm.l
  have m5 := hsm.s
  have m6 := hsm.q
  have m7 := hsm.m
  have hct := Lib.hid (copyt_any x.tao x.tcap x.tasks w2 H2.ts.row (by omega))
  obtain ⟨c0, c1, c2, c3, c4, c5, c6, c7, c8, c9, c10, c11⟩ := cfcells n1'
  have fz := froz12 n1'
  have f0 := fz 0
  have N1 := Lib.hid n1'
  have N2 := Lib.hid n2
  obtain ⟨tao, tcap, tasks, lao, lcap, lines, mtx, sao, scap, sems, qao, qcap, queues, mao, mcap, timers, table, mask, filter, charge, cycle, count⟩ := x
  unfold cfO cfCells at e1
  unfold zeroA at e2
  unfold cfV cfCells
  simp only at *
  clear s1 n1 b1 s2 n2 b2 n1' hD hE hB hs hsm H2 fz
  go_enter Tryd.func12, Tryd.ntmps12
  go_upto_region 1 with fail
  rw [← e1, HD.out, ← e2, HE.out]
  clear e1 e2
  go_wp2_with fail
  refine hct.out.mono ?_
  rintro r w3 ⟨bo, bc, rfl, o3, h3⟩
  have N3 := Lib.hid (blk_on h3 N1.out)
  have M3 := Lib.hid (blk_on h3 N2.out)
  have B3 := Lib.hid (below_on B2.out h3)
  have O3 := Lib.hid (o3.mono (show B ≤ w2.heap.size by rw [HB.out]; exact B2.out.size))
  clear o3 h3 hct c0 c1 c2 c3 c4 c5 c6 c7 c8 c9 c10 c11 f0
  obtain ⟨c0, c1, c2, c3, c4, c5, c6, c7, c8, c9, c10, c11⟩ := cfcells N3.out
  have f0 := froz12 N3.out 0
  simp only at *
  obtain ⟨w4, e4⟩ : ∃ w4, w4 = w3.setCell ⟨D, 0, none⟩ (.slice bo tasks.length bc) := ⟨_, rfl⟩
  have hon4 : Only w3 w4 (fun k => k = D) := by rw [e4]; exact Only.setCell w3 D 0 _ _ rfl
  have N4 : Hid (w4.heap[D]? = some (.cells (cfW (.slice bo tasks.length bc) (.slice lao lines.length lcap) (.slice sao sems.length scap) (.slice qao queues.length qcap) (.slice mao timers.length mcap) mtx table mask filter charge cycle count) 28)) := Lib.hid (by rw [e4]; exact heap_setCell_same w3 D 0 _ _ _ N3.out)
  have M4 := Lib.hid ((hon4.block E (blk_lt M3.out) (show ¬ E = D by have := HE.out; omega)).trans M3.out)
  have B4 : Hid (Below w.heap.size w w4) := Lib.hid ⟨hon4.os.trans B3.out.os, hon4.tape.trans B3.out.tape, hon4.output.trans B3.out.output, Nat.le_trans B3.out.size hon4.size, fun k hk => (hon4.block k (by have := B3.out.size; omega) (show ¬ k = D by have := HD.out; omega)).trans (B3.out.block k hk)⟩
  have O4 := Lib.hid (O3.out.keep hon4 (fun k hk => by rw [hk]; exact kind_of N3.out) (by decide))
  clear hon4 N3 M3 B3 O3
  go_upto_region 2 with fail
  rw [← e4]
  clear e4 c0 c1 c2 c3 c4 c5 c6 c7 c8 c9 c10 c11 f0
  obtain ⟨c0, -⟩ := cfW_cells N4.out
  have S0 : Hid (LpT w w4 B D E (cfW (.slice bo tasks.length bc) (.slice lao lines.length lcap) (.slice sao sems.length scap) (.slice qao queues.length qcap) (.slice mao timers.length mcap) mtx table mask filter charge cycle count) zeroA (.slice bo tasks.length bc) tasks 0 (fun _ => True)) := Lib.hid ⟨N4.out, M4.out, B4.out, cpT_start O4.out, trivial⟩
  clear N4 M4 B4 O4
  go_wp2_with fail
  clear c0
  go_loopw [12] (fun x wr => ∃ i : Nat, x = .int .i64 i ∧ i ≤ tasks.length ∧ Hid (LpT w wr B D E (cfW (.slice bo tasks.length bc) (.slice lao lines.length lcap) (.slice sao sems.length scap) (.slice qao queues.length qcap) (.slice mao timers.length mcap) mtx table mask filter charge cycle count) zeroA (.slice bo tasks.length bc) tasks i (fun _ => True))) (fun x _ => tasks.length - (intOf x).toNat)
  case atStart => exact ⟨0, rfl, Nat.zero_le _, S0⟩
  clear S0
  case round =>
  obtain ⟨i, rfl, hi, S1⟩ := hrel
  by_cases hlt : i < tasks.length
  · obtain ⟨g, rfl, -, hgB, -, hgk⟩ := S1.out.cp.mid.base (by omega)
    obtain ⟨y, hy0⟩ : ∃ y, y = tasks[i] := ⟨_, rfl⟩
    have hy : tasks[i]? = some y := by rw [hy0]; exact List.getElem?_eq_getElem hlt
    have hmem : y ∈ tasks := by rw [hy0]; exact List.getElem_mem hlt
    have YS := Lib.hid (HS.out.ts.code y hmem)
    have YL := Lib.hid (show y.t.code.length ≤ 1000000 by have := HSm.out.tc y hmem; omega)
    have HX := keeps_true 39
    have HgB := Lib.hid hgB
    have RG : Hid (RgT w wr.drew B D E g tasks.length bc (cfW (.slice (some ⟨g, 0, none⟩) tasks.length bc) (.slice lao lines.length lcap) (.slice sao sems.length scap) (.slice qao queues.length qcap) (.slice mao timers.length mcap) mtx table mask filter charge cycle count) zeroA tasks i (fun _ => True)) := Lib.hid (RgT.below ⟨S1.out.bel, S1.out.box, S1.out.zero, S1.out.cp.mid, hgk, trivial⟩ HX ⟨rfl, rfl, rfl, Nat.le_refl _, fun _ _ => rfl⟩)
    have hiI : (i : Int) < (tasks.length : Int) := by omega
    have hiO : (0 : Int) ≤ (i : Int) := by omega
    clear hy0 hmem hgB hgk S1
    go_upto_region 5 with fail
    refine wp_region_effs [fun v _ => v = .pointer (some ⟨D, 0, none⟩), fun v _ => v = .slice (some ⟨g, 0, none⟩) tasks.length bc, fun v _ => v = .int .i64 (i : Int), fun v _ => v = .pointer (some ⟨D, 0, none⟩), fun v _ => v = .slice (some ⟨g, 0, none⟩) tasks.length bc, fun v _ => v = .int .i64 (i : Int), fun v _ => v = .pointer (some ⟨g, i * 6, none⟩), fun v _ => v = .pointer (some ⟨g, i * 6 + 5, none⟩), fun v w => ∃ ao cap, v = .slice ao y.t.code.length cap ∧ SeenI w ao cap y.t.code ∧ ∀ b, ao = some b → y.t.code = [] ∨ b.block ≠ g, fun v w => ∃ bo bc, v = .slice bo y.t.code.length bc ∧ OwnIR w B (.slice bo y.t.code.length bc) y.t.code, fun v _ => v = .pointer (some ⟨g, i * 6, none⟩), fun v _ => v = .pointer (some ⟨g, i * 6 + 5, none⟩), fun _ _ => True]
      (fun w' => RgT w w' B D E g tasks.length bc (cfW (.slice (some ⟨g, 0, none⟩) tasks.length bc) (.slice lao lines.length lcap) (.slice sao sems.length scap) (.slice qao queues.length qcap) (.slice mao timers.length mcap) mtx table mask filter charge cycle count) zeroA tasks i (fun _ => True)) (StT B g i y) (fun j _ w' => j = 12 → CpT w' B (.slice (some ⟨g, 0, none⟩) tasks.length bc) tasks (i + 1)) [(0, 15), (1, 16), (2, 17), (3, 18), (4, 19), (5, 20), (6, 21), (7, 22), (8, 23), (9, 24), (10, 25), (11, 26)] 13 (by kernel_rfl) (by kernel_rfl) (by kernel_rfl) (by kernel_rfl) ?hC ?hR ?hF ?hloc ?hs ?hf
    case hC => exact RG.out
    case hR =>
      intro j v w1 w2 hC hg h
      have keep : ∀ ao cap, (SeenI w1 ao cap y.t.code ∧ ∀ b, ao = some b → y.t.code = [] ∨ b.block ≠ g) → SeenI w2 ao cap y.t.code := by
        rintro ao cap ⟨h1, h2⟩
        rcases hg with hb | ⟨bo, bc', -, rfl⟩
        · exact h1.below hb
        · exact h1.only (Only.setCell w1 g _ _ (fun k => k = g) rfl) h2
      rcases (show j = 8 ∨ j = 9 ∨ (j ≠ 8 ∧ j ≠ 9) by omega) with rfl | rfl | ⟨n8, n9⟩
      · obtain ⟨ao, cap, e, h1, h2⟩ := h
        exact ⟨ao, cap, e, keep ao cap ⟨h1, h2⟩, h2⟩
      · obtain ⟨bo, bc1, e, h1⟩ := h
        refine ⟨bo, bc1, e, ?_⟩
        rcases hg with hb | ⟨bo, bc', -, rfl⟩
        · exact h1.below hb
        · exact h1.keep (Only.setCell w1 g _ _ (fun k => k = g) rfl) (fun k hk => by rw [hk]; exact hC.kind) (by decide)
      · have hj : j = 0 ∨ j = 1 ∨ j = 2 ∨ j = 3 ∨ j = 4 ∨ j = 5 ∨ j = 6 ∨ j = 7 ∨ j = 10 ∨ j = 11 ∨ 12 ≤ j := by omega
        rcases hj with rfl | rfl | rfl | rfl | rfl | rfl | rfl | rfl | rfl | rfl | hj
        all_goals first | exact h | skip
        match j, hj with
        | 12, _ => trivial
        | k + 13, _ => trivial
    case hF =>
      intro j x w1 w2 hC hg h hj
      have h := h hj
      rcases hg with hb | ⟨bo, bc', ho2, rfl⟩
      · exact h.below hb
      · exact (hC.store HX HB.out HgB.out hy ho2).2
    case hloc => exact fun j o x y w _ _ h => h
    case hs =>
      refine stepsF_succ ?s12 (stepsF_succ ?s11 (stepsF_succ ?s10 (stepsF_succ ?s9 (stepsF_succ ?s8 (stepsF_succ ?s7 (stepsF_succ ?s6 (stepsF_succ ?s5 (stepsF_succ ?s4 (stepsF_succ ?s3 (stepsF_succ ?s2 (stepsF_succ ?s1 (stepsF_succ ?s0 (stepsF_zero)))))))))))))
      case s0 =>
        refine stepF0  rfl (by kernel_rfl) ?_
        rintro w' hC x   
        intro K hK
        go_simp
        exact hK _ _ rfl ⟨rfl, hC, .inl (Below.refl _ _), fun h => absurd h (by decide)⟩
      case s1 =>
        refine stepF1 0 15 rfl (by kernel_rfl) ?_
        rintro w' hC x v1 - rfl
        intro K hK
        obtain ⟨c0, c1, c2, c3, c4, c5, c6, c7, c8, c9, c10, c11⟩ := cfW_cells hC.box
        go_simp
        exact hK _ _ rfl ⟨rfl, hC, .inl (Below.refl _ _), fun h => absurd h (by decide)⟩
      case s2 =>
        refine stepF0  rfl (by kernel_rfl) ?_
        rintro w' hC x   
        intro K hK
        go_simp
        exact hK _ _ rfl ⟨rfl, hC, .inl (Below.refl _ _), fun h => absurd h (by decide)⟩
      case s3 =>
        refine stepF0  rfl (by kernel_rfl) ?_
        rintro w' hC x   
        intro K hK
        go_simp
        exact hK _ _ rfl ⟨rfl, hC, .inl (Below.refl _ _), fun h => absurd h (by decide)⟩
      case s4 =>
        refine stepF1 3 18 rfl (by kernel_rfl) ?_
        rintro w' hC x v1 - rfl
        intro K hK
        obtain ⟨c0, c1, c2, c3, c4, c5, c6, c7, c8, c9, c10, c11⟩ := cfW_cells hC.box
        go_simp
        exact hK _ _ rfl ⟨rfl, hC, .inl (Below.refl _ _), fun h => absurd h (by decide)⟩
      case s5 =>
        refine stepF0  rfl (by kernel_rfl) ?_
        rintro w' hC x   
        intro K hK
        go_simp
        exact hK _ _ rfl ⟨rfl, hC, .inl (Below.refl _ _), fun h => absurd h (by decide)⟩
      case s6 =>
        refine stepF2 4 19 5 20 rfl (by kernel_rfl) ?_
        rintro w' hC x v1 v2 - - rfl rfl
        intro K hK
        go_simp
        exact hK _ _ rfl ⟨rfl, hC, .inl (Below.refl _ _), fun h => absurd h (by decide)⟩
      case s7 =>
        refine stepF1 6 21 rfl (by kernel_rfl) ?_
        rintro w' hC x v1 - rfl
        intro K hK
        go_simp
        exact hK _ _ rfl ⟨rfl, hC, .inl (Below.refl _ _), fun h => absurd h (by decide)⟩
      case s8 =>
        refine stepF1 7 22 rfl (by kernel_rfl) ?_
        rintro w' hC x v1 - rfl
        intro K hK
        obtain ⟨ao, cap, h1, h2, h3⟩ := hC.mid.code hy HB.out hC.bel YS.out hC.kind HgB.out
        go_simp
        exact hK _ _ rfl ⟨⟨ao, cap, rfl, h2, h3⟩, hC, .inl (Below.refl _ _), fun h => absurd h (by decide)⟩
      case s9 =>
        refine stepF1 8 23 rfl (by kernel_rfl) ?_
        rintro w' hC x v1 - ⟨ao, cap, rfl, h2, h3⟩
        intro K hK
        go_simp
        refine (copyi_any ao cap y.t.code w' h2 YL.out).mono ?_
        rintro e w2 ⟨bo, bc', rfl, o2, b2⟩
        exact hK _ _ rfl ⟨⟨bo, bc', rfl, o2.mono (by rw [HB.out]; exact hC.bel.size)⟩, hC.below HX b2, .inl b2, fun h => absurd h (by decide)⟩
      case s10 =>
        refine stepF2 1 16 2 17 rfl (by kernel_rfl) ?_
        rintro w' hC x v1 v2 - - rfl rfl
        intro K hK
        go_simp
        exact hK _ _ rfl ⟨rfl, hC, .inl (Below.refl _ _), fun h => absurd h (by decide)⟩
      case s11 =>
        refine stepF1 10 25 rfl (by kernel_rfl) ?_
        rintro w' hC x v1 - rfl
        intro K hK
        go_simp
        exact hK _ _ rfl ⟨rfl, hC, .inl (Below.refl _ _), fun h => absurd h (by decide)⟩
      case s12 =>
        refine stepF2 9 24 11 26 rfl (by kernel_rfl) ?_
        rintro w' hC x v1 v2 - - ⟨bo, bc', rfl, o2⟩ rfl
        intro K hK
        obtain ⟨ao, cap, h1, -, -⟩ := hC.mid.code hy HB.out hC.bel YS.out hC.kind HgB.out
        obtain ⟨cs, hcs⟩ := hC.kind
        have fz := frozen_row hcs (i * 6 + 5)
        obtain ⟨r1, r2⟩ := hC.store HX HB.out HgB.out hy o2
        go_simp
        exact hK _ _ rfl ⟨trivial, r1, .inr ⟨bo, bc', o2, rfl⟩, fun _ => r2⟩
    case hf =>
      intro w' hC x hx hF
      have hB0 := hF 12 (by decide) rfl
      simp only [putAll, List.foldl_cons, List.foldl_nil, Act.put, List.setIfInBounds_toArray, List.set_cons_succ, List.set_cons_zero]
      have S2 : Hid (LpT w w' B D E (cfW (.slice (some ⟨g, 0, none⟩) tasks.length bc) (.slice lao lines.length lcap) (.slice sao sems.length scap) (.slice qao queues.length qcap) (.slice mao timers.length mcap) mtx table mask filter charge cycle count) zeroA (.slice (some ⟨g, 0, none⟩) tasks.length bc) tasks (i + 1) (fun _ => True)) := Lib.hid ⟨hC.box, hC.zero, hC.bel, hB0, hC.ex⟩
      clear hx hF hB0 hC
      go_wp2_with fail
      go_roundw
      case rel => exact ⟨i + 1, by go_num, hlt, S2⟩
      case measure => simp [intOf]; omega
  obtain rfl : i = tasks.length := by omega
  have N5 := Lib.hid S1.out.box
  have M5 := Lib.hid S1.out.zero
  have B5 := Lib.hid S1.out.bel
  have TS := Lib.hid S1.out.cp
  clear S1 hlt hi
  obtain ⟨c0, c1, c2, c3, c4, c5, c6, c7, c8, c9, c10, c11⟩ := cfW_cells N5.out
  have HC7 := Lib.hid (copyl_any lao lcap lines wr (HS.out.ls.row.below' B5.out) (by omega))
  go_wp2_with fail
  refine HC7.out.mono ?_
  rintro r w6 ⟨lo', lc', rfl, o7, h7⟩
  clear HC7 c0 c1 c2 c3 c4 c5 c6 c7 c8 c9 c10 c11
  have NC := blk_on h7 N5.out
  have MC := blk_on h7 M5.out
  have BC := below_on B5.out h7
  have OC := o7.mono (show B ≤ wr.heap.size by rw [HB.out]; exact B5.out.size)
  have TSC := TS.out.below h7
  obtain ⟨c0, c1, c2, c3, c4, c5, c6, c7, c8, c9, c10, c11⟩ := cfW_cells NC
  have fz := froz12 NC 1
  obtain ⟨w7, e7⟩ : ∃ w7, w7 = w6.setCell ⟨D, 1, none⟩ (.slice lo' lines.length lc') := ⟨_, rfl⟩
  obtain ⟨on, N7, M7, B7⟩ := box_store (w0 := w) (box' := (cfW (.slice bo tasks.length bc) (.slice lo' lines.length lc') (.slice sao sems.length scap) (.slice qao queues.length qcap) (.slice mao timers.length mcap) mtx table mask filter charge cycle count)) (show E ≠ D by have := HE.out; omega) (HDE.out.1) BC NC MC e7 rfl
  have N7 := Lib.hid N7
  have M7 := Lib.hid M7
  have B7 := Lib.hid B7
  have kD : ∀ k, k = D → Kind w6 k 28 := fun k hk => by rw [hk]; exact kind_of NC
  have LO := Lib.hid (OwnR.keep OC on kD (by decide))
  have TS := Lib.hid (TSC.keep on kD (by decide) (by decide))
  clear on kD NC MC BC OC h7 o7 N5 M5 B5 TSC
  go_upto_region 8 with fail
  rw [← e7]
  clear e7 fz c0 c1 c2 c3 c4 c5 c6 c7 c8 c9 c10 c11
  have S0 : Hid (LpL w w7 B D E (cfW (.slice bo tasks.length bc) (.slice lo' lines.length lc') (.slice sao sems.length scap) (.slice qao queues.length qcap) (.slice mao timers.length mcap) mtx table mask filter charge cycle count) zeroA (.slice lo' lines.length lc') lines 0 (fun u => CpT u B (.slice bo tasks.length bc) tasks tasks.length)) := Lib.hid ⟨N7.out, M7.out, B7.out, cpL_start LO.out, TS.out⟩
  obtain ⟨c0, c1, -⟩ := cfW_cells N7.out
  clear N7 M7 B7 LO TS
  go_wp2_with fail
  clear c0 c1
  go_loopw [35] (fun x wr => ∃ i : Nat, x = .int .i64 i ∧ i ≤ lines.length ∧ Hid (LpL w wr B D E (cfW (.slice bo tasks.length bc) (.slice lo' lines.length lc') (.slice sao sems.length scap) (.slice qao queues.length qcap) (.slice mao timers.length mcap) mtx table mask filter charge cycle count) zeroA (.slice lo' lines.length lc') lines i (fun u => CpT u B (.slice bo tasks.length bc) tasks tasks.length))) (fun x _ => lines.length - (intOf x).toNat)
  case atStart => exact ⟨0, rfl, Nat.zero_le _, S0⟩
  clear S0
  case round =>
  obtain ⟨i, rfl, hi, S1⟩ := hrel
  by_cases hlt : i < lines.length
  · obtain ⟨g, rfl, -, hgB, -, hgk⟩ := S1.out.cp.mid.base (by omega)
    obtain ⟨y, hy0⟩ : ∃ y, y = lines[i] := ⟨_, rfl⟩
    have hy : lines[i]? = some y := by rw [hy0]; exact List.getElem?_eq_getElem hlt
    have hmem : y ∈ lines := by rw [hy0]; exact List.getElem_mem hlt
    have YS := Lib.hid (HS.out.ls.code y hmem)
    have YL := Lib.hid (show y.t.code.length ≤ 1000000 by have := HSm.out.lc y hmem; omega)
    have HX : Keeps 43 (fun u => CpT u B (.slice bo tasks.length bc) tasks tasks.length) := ⟨fun _ _ hb h => h.below hb, fun w g j v hk h => h.keep (Only.setCell w g j v (fun k => k = g) rfl) (fun k e => by rw [e]; exact hk) (by decide) (by decide)⟩
    have HgB := Lib.hid hgB
    have RG : Hid (RgL w wr.drew B D E g lines.length lc' (cfW (.slice bo tasks.length bc) (.slice (some ⟨g, 0, none⟩) lines.length lc') (.slice sao sems.length scap) (.slice qao queues.length qcap) (.slice mao timers.length mcap) mtx table mask filter charge cycle count) zeroA lines i (fun u => CpT u B (.slice bo tasks.length bc) tasks tasks.length)) := Lib.hid (RgL.below ⟨S1.out.bel, S1.out.box, S1.out.zero, S1.out.cp.mid, hgk, S1.out.ex⟩ HX ⟨rfl, rfl, rfl, Nat.le_refl _, fun _ _ => rfl⟩)
    have hiI : (i : Int) < (lines.length : Int) := by omega
    have hiO : (0 : Int) ≤ (i : Int) := by omega
    clear hy0 hmem hgB hgk S1
    go_upto_region 11 with fail
    refine wp_region_effs [fun v _ => v = .pointer (some ⟨D, 1, none⟩), fun v _ => v = .slice (some ⟨g, 0, none⟩) lines.length lc', fun v _ => v = .int .i64 (i : Int), fun v _ => v = .pointer (some ⟨D, 1, none⟩), fun v _ => v = .slice (some ⟨g, 0, none⟩) lines.length lc', fun v _ => v = .int .i64 (i : Int), fun v _ => v = .pointer (some ⟨g, i * 2, none⟩), fun v _ => v = .pointer (some ⟨g, i * 2 + 1, none⟩), fun v w => ∃ ao cap, v = .slice ao y.t.code.length cap ∧ SeenI w ao cap y.t.code ∧ ∀ b, ao = some b → y.t.code = [] ∨ b.block ≠ g, fun v w => ∃ bo bc, v = .slice bo y.t.code.length bc ∧ OwnIR w B (.slice bo y.t.code.length bc) y.t.code, fun v _ => v = .pointer (some ⟨g, i * 2, none⟩), fun v _ => v = .pointer (some ⟨g, i * 2 + 1, none⟩), fun _ _ => True]
      (fun w' => RgL w w' B D E g lines.length lc' (cfW (.slice bo tasks.length bc) (.slice (some ⟨g, 0, none⟩) lines.length lc') (.slice sao sems.length scap) (.slice qao queues.length qcap) (.slice mao timers.length mcap) mtx table mask filter charge cycle count) zeroA lines i (fun u => CpT u B (.slice bo tasks.length bc) tasks tasks.length)) (StL B g i y) (fun j _ w' => j = 12 → CpL w' B (.slice (some ⟨g, 0, none⟩) lines.length lc') lines (i + 1)) [(0, 38), (1, 39), (2, 40), (3, 41), (4, 42), (5, 43), (6, 44), (7, 45), (8, 46), (9, 47), (10, 48), (11, 49)] 13 (by kernel_rfl) (by kernel_rfl) (by kernel_rfl) (by kernel_rfl) ?hC ?hR ?hF ?hloc ?hs ?hf
    case hC => exact RG.out
    case hR =>
      intro j v w1 w2 hC hg h
      have keep : ∀ ao cap, (SeenI w1 ao cap y.t.code ∧ ∀ b, ao = some b → y.t.code = [] ∨ b.block ≠ g) → SeenI w2 ao cap y.t.code := by
        rintro ao cap ⟨h1, h2⟩
        rcases hg with hb | ⟨bo, bc', -, rfl⟩
        · exact h1.below hb
        · exact h1.only (Only.setCell w1 g _ _ (fun k => k = g) rfl) h2
      rcases (show j = 8 ∨ j = 9 ∨ (j ≠ 8 ∧ j ≠ 9) by omega) with rfl | rfl | ⟨n8, n9⟩
      · obtain ⟨ao, cap, e, h1, h2⟩ := h
        exact ⟨ao, cap, e, keep ao cap ⟨h1, h2⟩, h2⟩
      · obtain ⟨bo, bc1, e, h1⟩ := h
        refine ⟨bo, bc1, e, ?_⟩
        rcases hg with hb | ⟨bo, bc', -, rfl⟩
        · exact h1.below hb
        · exact h1.keep (Only.setCell w1 g _ _ (fun k => k = g) rfl) (fun k hk => by rw [hk]; exact hC.kind) (by decide)
      · have hj : j = 0 ∨ j = 1 ∨ j = 2 ∨ j = 3 ∨ j = 4 ∨ j = 5 ∨ j = 6 ∨ j = 7 ∨ j = 10 ∨ j = 11 ∨ 12 ≤ j := by omega
        rcases hj with rfl | rfl | rfl | rfl | rfl | rfl | rfl | rfl | rfl | rfl | hj
        all_goals first | exact h | skip
        match j, hj with
        | 12, _ => trivial
        | k + 13, _ => trivial
    case hF =>
      intro j x w1 w2 hC hg h hj
      have h := h hj
      rcases hg with hb | ⟨bo, bc', ho2, rfl⟩
      · exact h.below hb
      · exact (hC.store HX HB.out HgB.out hy ho2).2
    case hloc => exact fun j o x y w _ _ h => h
    case hs =>
      refine stepsF_succ ?s12 (stepsF_succ ?s11 (stepsF_succ ?s10 (stepsF_succ ?s9 (stepsF_succ ?s8 (stepsF_succ ?s7 (stepsF_succ ?s6 (stepsF_succ ?s5 (stepsF_succ ?s4 (stepsF_succ ?s3 (stepsF_succ ?s2 (stepsF_succ ?s1 (stepsF_succ ?s0 (stepsF_zero)))))))))))))
      case s0 =>
        refine stepF0  rfl (by kernel_rfl) ?_
        rintro w' hC x   
        intro K hK
        go_simp
        exact hK _ _ rfl ⟨rfl, hC, .inl (Below.refl _ _), fun h => absurd h (by decide)⟩
      case s1 =>
        refine stepF1 0 38 rfl (by kernel_rfl) ?_
        rintro w' hC x v1 - rfl
        intro K hK
        obtain ⟨c0, c1, c2, c3, c4, c5, c6, c7, c8, c9, c10, c11⟩ := cfW_cells hC.box
        go_simp
        exact hK _ _ rfl ⟨rfl, hC, .inl (Below.refl _ _), fun h => absurd h (by decide)⟩
      case s2 =>
        refine stepF0  rfl (by kernel_rfl) ?_
        rintro w' hC x   
        intro K hK
        go_simp
        exact hK _ _ rfl ⟨rfl, hC, .inl (Below.refl _ _), fun h => absurd h (by decide)⟩
      case s3 =>
        refine stepF0  rfl (by kernel_rfl) ?_
        rintro w' hC x   
        intro K hK
        go_simp
        exact hK _ _ rfl ⟨rfl, hC, .inl (Below.refl _ _), fun h => absurd h (by decide)⟩
      case s4 =>
        refine stepF1 3 41 rfl (by kernel_rfl) ?_
        rintro w' hC x v1 - rfl
        intro K hK
        obtain ⟨c0, c1, c2, c3, c4, c5, c6, c7, c8, c9, c10, c11⟩ := cfW_cells hC.box
        go_simp
        exact hK _ _ rfl ⟨rfl, hC, .inl (Below.refl _ _), fun h => absurd h (by decide)⟩
      case s5 =>
        refine stepF0  rfl (by kernel_rfl) ?_
        rintro w' hC x   
        intro K hK
        go_simp
        exact hK _ _ rfl ⟨rfl, hC, .inl (Below.refl _ _), fun h => absurd h (by decide)⟩
      case s6 =>
        refine stepF2 4 42 5 43 rfl (by kernel_rfl) ?_
        rintro w' hC x v1 v2 - - rfl rfl
        intro K hK
        go_simp
        exact hK _ _ rfl ⟨rfl, hC, .inl (Below.refl _ _), fun h => absurd h (by decide)⟩
      case s7 =>
        refine stepF1 6 44 rfl (by kernel_rfl) ?_
        rintro w' hC x v1 - rfl
        intro K hK
        go_simp
        exact hK _ _ rfl ⟨rfl, hC, .inl (Below.refl _ _), fun h => absurd h (by decide)⟩
      case s8 =>
        refine stepF1 7 45 rfl (by kernel_rfl) ?_
        rintro w' hC x v1 - rfl
        intro K hK
        obtain ⟨ao, cap, h1, h2, h3⟩ := hC.mid.code hy HB.out hC.bel YS.out hC.kind HgB.out
        go_simp
        exact hK _ _ rfl ⟨⟨ao, cap, rfl, h2, h3⟩, hC, .inl (Below.refl _ _), fun h => absurd h (by decide)⟩
      case s9 =>
        refine stepF1 8 46 rfl (by kernel_rfl) ?_
        rintro w' hC x v1 - ⟨ao, cap, rfl, h2, h3⟩
        intro K hK
        go_simp
        refine (copyi_any ao cap y.t.code w' h2 YL.out).mono ?_
        rintro e w2 ⟨bo, bc', rfl, o2, b2⟩
        exact hK _ _ rfl ⟨⟨bo, bc', rfl, o2.mono (by rw [HB.out]; exact hC.bel.size)⟩, hC.below HX b2, .inl b2, fun h => absurd h (by decide)⟩
      case s10 =>
        refine stepF2 1 39 2 40 rfl (by kernel_rfl) ?_
        rintro w' hC x v1 v2 - - rfl rfl
        intro K hK
        go_simp
        exact hK _ _ rfl ⟨rfl, hC, .inl (Below.refl _ _), fun h => absurd h (by decide)⟩
      case s11 =>
        refine stepF1 10 48 rfl (by kernel_rfl) ?_
        rintro w' hC x v1 - rfl
        intro K hK
        go_simp
        exact hK _ _ rfl ⟨rfl, hC, .inl (Below.refl _ _), fun h => absurd h (by decide)⟩
      case s12 =>
        refine stepF2 9 47 11 49 rfl (by kernel_rfl) ?_
        rintro w' hC x v1 v2 - - ⟨bo, bc', rfl, o2⟩ rfl
        intro K hK
        obtain ⟨ao, cap, h1, -, -⟩ := hC.mid.code hy HB.out hC.bel YS.out hC.kind HgB.out
        obtain ⟨cs, hcs⟩ := hC.kind
        have fz := frozen_row hcs (i * 2 + 1)
        obtain ⟨r1, r2⟩ := hC.store HX HB.out HgB.out hy o2
        go_simp
        exact hK _ _ rfl ⟨trivial, r1, .inr ⟨bo, bc', o2, rfl⟩, fun _ => r2⟩
    case hf =>
      intro w' hC x hx hF
      have hB0 := hF 12 (by decide) rfl
      simp only [putAll, List.foldl_cons, List.foldl_nil, Act.put, List.setIfInBounds_toArray, List.set_cons_succ, List.set_cons_zero]
      have S2 : Hid (LpL w w' B D E (cfW (.slice bo tasks.length bc) (.slice (some ⟨g, 0, none⟩) lines.length lc') (.slice sao sems.length scap) (.slice qao queues.length qcap) (.slice mao timers.length mcap) mtx table mask filter charge cycle count) zeroA (.slice (some ⟨g, 0, none⟩) lines.length lc') lines (i + 1) (fun u => CpT u B (.slice bo tasks.length bc) tasks tasks.length)) := Lib.hid ⟨hC.box, hC.zero, hC.bel, hB0, hC.ex⟩
      clear hx hF hB0 hC
      go_wp2_with fail
      go_roundw
      case rel => exact ⟨i + 1, by go_num, hlt, S2⟩
      case measure => simp [intOf]; omega
  obtain rfl : i = lines.length := by omega
  have N8 := Lib.hid S1.out.box
  have M8 := Lib.hid S1.out.zero
  have B8 := Lib.hid S1.out.bel
  have LS := Lib.hid S1.out.cp
  have TS := Lib.hid S1.out.ex
  clear S1 hlt hi
  obtain ⟨c0, c1, c2, c3, c4, c5, c6, c7, c8, c9, c10, c11⟩ := cfW_cells N8.out
  have HC10 := Lib.hid (copyn_any sao scap sems wr (HS.out.ss.below' B8.out) (by omega))
  go_wp2_with fail
  refine HC10.out.mono ?_
  rintro r w9 ⟨so', sc', rfl, o10, h10⟩
  clear HC10 c0 c1 c2 c3 c4 c5 c6 c7 c8 c9 c10 c11
  have NC := blk_on h10 N8.out
  have MC := blk_on h10 M8.out
  have BC := below_on B8.out h10
  have OC := o10.mono (show B ≤ wr.heap.size by rw [HB.out]; exact B8.out.size)
  have TSC := TS.out.below h10
  have LSC := LS.out.below h10
  obtain ⟨c0, c1, c2, c3, c4, c5, c6, c7, c8, c9, c10, c11⟩ := cfW_cells NC
  have fz := froz12 NC 3
  obtain ⟨w10, e10⟩ : ∃ w10, w10 = w9.setCell ⟨D, 3, none⟩ (.slice so' sems.length sc') := ⟨_, rfl⟩
  obtain ⟨on, N10, M10, B10⟩ := box_store (w0 := w) (box' := (cfW (.slice bo tasks.length bc) (.slice lo' lines.length lc') (.slice so' sems.length sc') (.slice qao queues.length qcap) (.slice mao timers.length mcap) mtx table mask filter charge cycle count)) (show E ≠ D by have := HE.out; omega) (HDE.out.1) BC NC MC e10 rfl
  have N10 := Lib.hid N10
  have M10 := Lib.hid M10
  have B10 := Lib.hid B10
  have kD : ∀ k, k = D → Kind w9 k 28 := fun k hk => by rw [hk]; exact kind_of NC
  have SO := Lib.hid (OwnR.keep OC on kD (by decide))
  have TS := Lib.hid (TSC.keep on kD (by decide) (by decide))
  have LS := Lib.hid (LSC.keep on kD (by decide) (by decide))
  clear on kD NC MC BC OC h10 o10 N8 M8 B8 TSC LSC
  go_upto_region 14 with fail
  rw [← e10]
  clear e10 fz c0 c1 c2 c3 c4 c5 c6 c7 c8 c9 c10 c11
  obtain ⟨c0, c1, c2, c3, c4, c5, c6, c7, c8, c9, c10, c11⟩ := cfW_cells N10.out
  have HC12 := Lib.hid (copyn_any qao qcap queues w10 (HS.out.qs.below' B10.out) (by omega))
  go_wp2_with fail
  refine HC12.out.mono ?_
  rintro r w11 ⟨qo', qc', rfl, o12, h12⟩
  clear HC12 c0 c1 c2 c3 c4 c5 c6 c7 c8 c9 c10 c11
  have NC := blk_on h12 N10.out
  have MC := blk_on h12 M10.out
  have BC := below_on B10.out h12
  have OC := o12.mono (show B ≤ w10.heap.size by rw [HB.out]; exact B10.out.size)
  have TSC := TS.out.below h12
  have LSC := LS.out.below h12
  have SOC := OwnR.below SO.out h12
  obtain ⟨c0, c1, c2, c3, c4, c5, c6, c7, c8, c9, c10, c11⟩ := cfW_cells NC
  have fz := froz12 NC 4
  obtain ⟨w12, e12⟩ : ∃ w12, w12 = w11.setCell ⟨D, 4, none⟩ (.slice qo' queues.length qc') := ⟨_, rfl⟩
  obtain ⟨on, N12, M12, B12⟩ := box_store (w0 := w) (box' := (cfW (.slice bo tasks.length bc) (.slice lo' lines.length lc') (.slice so' sems.length sc') (.slice qo' queues.length qc') (.slice mao timers.length mcap) mtx table mask filter charge cycle count)) (show E ≠ D by have := HE.out; omega) (HDE.out.1) BC NC MC e12 rfl
  have N12 := Lib.hid N12
  have M12 := Lib.hid M12
  have B12 := Lib.hid B12
  have kD : ∀ k, k = D → Kind w11 k 28 := fun k hk => by rw [hk]; exact kind_of NC
  have QO := Lib.hid (OwnR.keep OC on kD (by decide))
  have TS := Lib.hid (TSC.keep on kD (by decide) (by decide))
  have LS := Lib.hid (LSC.keep on kD (by decide) (by decide))
  have SO := Lib.hid (OwnR.keep SOC on kD (by decide))
  clear on kD NC MC BC OC h12 o12 N10 M10 B10 TSC LSC SOC
  go_upto_region 15 with fail
  rw [← e12]
  clear e12 fz c0 c1 c2 c3 c4 c5 c6 c7 c8 c9 c10 c11
  obtain ⟨c0, c1, c2, c3, c4, c5, c6, c7, c8, c9, c10, c11⟩ := cfW_cells N12.out
  have HC14 := Lib.hid (copyn_any mao mcap timers w12 (HS.out.ms.below' B12.out) (by omega))
  go_wp2_with fail
  refine HC14.out.mono ?_
  rintro r w13 ⟨mo', mc', rfl, o14, h14⟩
  clear HC14 c0 c1 c2 c3 c4 c5 c6 c7 c8 c9 c10 c11
  have NC := blk_on h14 N12.out
  have MC := blk_on h14 M12.out
  have BC := below_on B12.out h14
  have OC := o14.mono (show B ≤ w12.heap.size by rw [HB.out]; exact B12.out.size)
  have TSC := TS.out.below h14
  have LSC := LS.out.below h14
  have SOC := OwnR.below SO.out h14
  have QOC := OwnR.below QO.out h14
  obtain ⟨c0, c1, c2, c3, c4, c5, c6, c7, c8, c9, c10, c11⟩ := cfW_cells NC
  have fz := froz12 NC 5
  obtain ⟨w14, e14⟩ : ∃ w14, w14 = w13.setCell ⟨D, 5, none⟩ (.slice mo' timers.length mc') := ⟨_, rfl⟩
  obtain ⟨on, N14, M14, B14⟩ := box_store (w0 := w) (box' := (cfW (.slice bo tasks.length bc) (.slice lo' lines.length lc') (.slice so' sems.length sc') (.slice qo' queues.length qc') (.slice mo' timers.length mc') mtx table mask filter charge cycle count)) (show E ≠ D by have := HE.out; omega) (HDE.out.1) BC NC MC e14 rfl
  have N14 := Lib.hid N14
  have M14 := Lib.hid M14
  have B14 := Lib.hid B14
  have kD : ∀ k, k = D → Kind w13 k 28 := fun k hk => by rw [hk]; exact kind_of NC
  have MO := Lib.hid (OwnR.keep OC on kD (by decide))
  have TS := Lib.hid (TSC.keep on kD (by decide) (by decide))
  have LS := Lib.hid (LSC.keep on kD (by decide) (by decide))
  have SO := Lib.hid (OwnR.keep SOC on kD (by decide))
  have QO := Lib.hid (OwnR.keep QOC on kD (by decide))
  clear on kD NC MC BC OC h14 o14 N12 M12 B12 TSC LSC SOC QOC
  go_upto_region 16 with fail
  rw [← e14]
  clear e14 fz c0 c1 c2 c3 c4 c5 c6 c7 c8 c9 c10 c11
  obtain ⟨lT, hT1, hT2, hT3, hT4⟩ := TS.out.done (Nat.le_refl _)
  obtain ⟨lL, hL1, hL2, hL3, hL4⟩ := LS.out.done (Nat.le_refl _)
  have own : OwnC w14 B ⟨bo, bc, lT, lo', lc', lL, mtx, so', sc', sems, qo', qc', queues, mo', mc', timers, table, mask, filter, charge, cycle, count⟩ := ⟨by rw [← hT1] at hT3; exact hT3, hT4, by rw [← hL1] at hL3; exact hL3, hL4, SO.out, QO.out, MO.out⟩
  have OW := Lib.hid own
  have ET := Lib.hid (And.intro hT1 (And.intro hT2 (And.intro hL1 hL2)))
  obtain ⟨c0, c1, c2, c3, c4, c5, c6, c7, c8, c9, c10, c11⟩ := cfW_cells N14.out
  have me := M14.out
  unfold zeroA at me
  have d0 : w14.cell? ⟨E, 0, none⟩ = some (.slice none 0 0) := by simp [World.cell?, me]
  have d1 : w14.cell? ⟨E, 1, none⟩ = some (.slice none 0 0) := by simp [World.cell?, me]
  have d2 : w14.cell? ⟨E, 2, none⟩ = some (.int .i64 0) := by simp [World.cell?, me]
  have d3 : w14.cell? ⟨E, 3, none⟩ = some (.slice none 0 0) := by simp [World.cell?, me]
  have d4 : w14.cell? ⟨E, 4, none⟩ = some (.slice none 0 0) := by simp [World.cell?, me]
  have d5 : w14.cell? ⟨E, 5, none⟩ = some (.slice none 0 0) := by simp [World.cell?, me]
  have d6 : w14.cell? ⟨E, 6, none⟩ = some (.int .i64 0) := by simp [World.cell?, me]
  have d7 : w14.cell? ⟨E, 7, none⟩ = some (.int .u32 0) := by simp [World.cell?, me]
  have d8 : w14.cell? ⟨E, 8, none⟩ = some (.int .u32 0) := by simp [World.cell?, me]
  have d9 : w14.cell? ⟨E, 9, none⟩ = some (.int .i64 0) := by simp [World.cell?, me]
  have d10 : w14.cell? ⟨E, 10, none⟩ = some (.int .u64 0) := by simp [World.cell?, me]
  have d11 : w14.cell? ⟨E, 11, none⟩ = some (.int .u64 0) := by simp [World.cell?, me]
  have fz := froz12 M14.out
  have f0 := fz 0
  have f1 := fz 1
  have f2 := fz 2
  have f3 := fz 3
  have f4 := fz 4
  have f5 := fz 5
  have f6 := fz 6
  have f7 := fz 7
  have f8 := fz 8
  have f9 := fz 9
  have f10 := fz 10
  have f11 := fz 11
  clear fz me own hT1 hT2 hT3 hT4 hL1 hL2 hL3 hL4 TS LS SO QO MO
  go_wp2_with fail
  obtain ⟨wf, ef⟩ : ∃ wf, wf = stN w14 E 0 [.slice bo tasks.length bc, .slice lo' lines.length lc', .int .i64 mtx, .slice so' sems.length sc', .slice qo' queues.length qc', .slice mo' timers.length mc', .int .i64 table, .int .u32 (mask : Int), .int .u32 (filter : Int), .int .i64 charge, .int .u64 (cycle : Int), .int .u64 (count : Int)] := ⟨_, rfl⟩
  have NF := cfW_stored M14.out (a := .slice bo tasks.length bc) (b := .slice lo' lines.length lc') (c := .slice so' sems.length sc') (d := .slice qo' queues.length qc') (e := .slice mo' timers.length mc') (mtx := mtx) (table := table) (mask := mask) (filter := filter) (charge := charge) (cycle := cycle) (count := count)
  have own : OwnC wf w.heap.size ⟨bo, bc, lT, lo', lc', lL, mtx, so', sc', sems, qo', qc', queues, mo', mc', timers, table, mask, filter, charge, cycle, count⟩ := by
    rw [ef, ← HB.out]
    exact OW.out.keep (stN_only (D := E) _ w14 0) (fun k hk => by rw [hk]; exact kind_of M14.out)
  have BF : Below w.heap.size w wf := by
    rw [ef]
    exact stN_below B14.out HDE.out.2 _ 0 B14.out.size
  rw [← ef] at NF
  simp only [stN] at ef
  rw [← ef]
  have HNF := Lib.hid NF
  have HOF := Lib.hid own
  have HBF := Lib.hid BF
  clear ef NF own BF c0 d0 f0 c1 d1 f1 c2 d2 f2 c3 d3 f3 c4 d4 f4 c5 d5 f5 c6 d6 f6 c7 d7 f7 c8 d8 f8 c9 d9 f9 c10 d10 f10 c11 d11 f11
  refine bodyPost_ret (ret_cfg rfl rfl HNF.out) rfl ⟨_, ?_, ?_, HOF.out, HBF.out⟩
  · simp only [cfV, cfCells, cfW, ET.out.1, ET.out.2.2.1]
  · simp only [CfgV.c, ET.out.2.1, ET.out.2.2.2]

end Go.Proofs.YtbhnehacgkhpbaaDoor
