/-
  Tasks, lines and systems in memory: the cells of one, slices of them that came in, the blocks that hold one. No condition.
-/
import Derived.Test.YtbhnehacgkhpbaaDoorCf0
import Derived.Test.YtbhnehacgkhpbaaDoorRw
import Derived.Test.YtbhnehacgkhpbaaDoorInS
namespace Go.Proofs.YtbhnehacgkhpbaaDoor
open Go Go.ChangeShapes Go.WideShapes Go.ChangeAt Go.RowKit
set_option linter.unusedVariables false
set_option linter.unusedSimpArgs false

/-- A task and a line as they lie: what they are, and where the program lies. -/
structure TskV where
  t : Tsk
  ao : Option Addr
  cap : Nat
structure LinV where
  t : Lin
  ao : Option Addr
  cap : Nat

def tsk6 (x : TskV) : List Value := [.int .i64 x.t.lv, .int .i64 x.t.ot, .int .i64 x.t.pd, .int .i64 x.t.dl, .int .i64 x.t.mm, .slice x.ao x.t.code.length x.cap]
def lin2 (x : LinV) : List Value := [.int .i64 x.t.mm, .slice x.ao x.t.code.length x.cap]
def num1 (n : Int) : List Value := [.int .i64 n]
theorem tsk6_len (x : TskV) : (tsk6 x).length = 6 := rfl
theorem lin2_len (x : LinV) : (lin2 x).length = 2 := rfl
theorem num1_len (x : Int) : (num1 x).length = 1 := rfl
theorem in6_len (x : Ins) : (in6 x).length = 6 := rfl
theorem tsk6_one (x : TskV) : ∀ u ∈ tsk6 x, u.oneCell' = true := by
  intro u hu
  simp only [tsk6, List.mem_cons, List.not_mem_nil, or_false] at hu
  rcases hu with rfl | rfl | rfl | rfl | rfl | rfl <;> rfl
theorem lin2_one (x : LinV) : ∀ u ∈ lin2 x, u.oneCell' = true := by
  intro u hu
  simp only [lin2, List.mem_cons, List.not_mem_nil, or_false] at hu
  rcases hu with rfl | rfl <;> rfl
theorem num1_one (x : Int) : ∀ u ∈ num1 x, u.oneCell' = true := by
  intro u hu
  simp only [num1, List.mem_cons, List.not_mem_nil, or_false] at hu
  subst hu; rfl

def tskV (x : TskV) : Value := .agg #[.int .i64 x.t.lv, .int .i64 x.t.ot, .int .i64 x.t.pd, .int .i64 x.t.dl, .int .i64 x.t.mm, .slice x.ao x.t.code.length x.cap]
def tskO (x : TskV) : Obj := .cells #[.int .i64 x.t.lv, .int .i64 x.t.ot, .int .i64 x.t.pd, .int .i64 x.t.dl, .int .i64 x.t.mm, .slice x.ao x.t.code.length x.cap] 39
def linV (x : LinV) : Value := .agg #[.int .i64 x.t.mm, .slice x.ao x.t.code.length x.cap]
def linO (x : LinV) : Obj := .cells #[.int .i64 x.t.mm, .slice x.ao x.t.code.length x.cap] 43

/-- The cells from a place on hold a task; a line. -/
structure AtT (w : World) (b o : Nat) (x : TskV) : Prop where
  c0 : w.cell? ⟨b, o, none⟩ = some (.int .i64 x.t.lv)
  c1 : w.cell? ⟨b, o + 1, none⟩ = some (.int .i64 x.t.ot)
  c2 : w.cell? ⟨b, o + 2, none⟩ = some (.int .i64 x.t.pd)
  c3 : w.cell? ⟨b, o + 3, none⟩ = some (.int .i64 x.t.dl)
  c4 : w.cell? ⟨b, o + 4, none⟩ = some (.int .i64 x.t.mm)
  c5 : w.cell? ⟨b, o + 5, none⟩ = some (.slice x.ao x.t.code.length x.cap)
structure AtLn (w : World) (b o : Nat) (x : LinV) : Prop where
  c0 : w.cell? ⟨b, o, none⟩ = some (.int .i64 x.t.mm)
  c1 : w.cell? ⟨b, o + 1, none⟩ = some (.slice x.ao x.t.code.length x.cap)
theorem AtT.below {w w' : World} {b o : Nat} {x : TskV} (h : AtT w b o x) (hb : Below w.heap.size w w') : AtT w' b o x :=
  ⟨cell_kept hb h.c0, cell_kept hb h.c1, cell_kept hb h.c2, cell_kept hb h.c3, cell_kept hb h.c4, cell_kept hb h.c5⟩
theorem AtLn.below {w w' : World} {b o : Nat} {x : LinV} (h : AtLn w b o x) (hb : Below w.heap.size w w') : AtLn w' b o x := ⟨cell_kept hb h.c0, cell_kept hb h.c1⟩
theorem tskcells {w : World} {E : Nat} {x : TskV} (h : w.heap[E]? = some (tskO x)) : AtT w E 0 x := by
  refine ⟨?_, ?_, ?_, ?_, ?_, ?_⟩ <;> simp [World.cell?, h, tskO]
theorem lincells {w : World} {E : Nat} {x : LinV} (h : w.heap[E]? = some (linO x)) : AtLn w E 0 x := by
  refine ⟨?_, ?_⟩ <;> simp [World.cell?, h, linO]

/-- Slices of tasks, of lines, of numbers. -/
structure SeenT (w : World) (ao : Option Addr) (cap : Nat) (l : List TskV) : Prop where
  row : SeenR 6 tsk6 w ao cap l
  code : ∀ x ∈ l, SeenI w x.ao x.cap x.t.code
structure SeenLn (w : World) (ao : Option Addr) (cap : Nat) (l : List LinV) : Prop where
  row : SeenR 2 lin2 w ao cap l
  code : ∀ x ∈ l, SeenI w x.ao x.cap x.t.code
abbrev SeenZ (w : World) (ao : Option Addr) (cap : Nat) (l : List Int) : Prop := SeenR 1 num1 w ao cap l
theorem SeenT.below {w w1 : World} {ao : Option Addr} {cap : Nat} {l : List TskV} (h : SeenT w ao cap l) (hb : Below w.heap.size w w1) : SeenT w1 ao cap l := ⟨h.row.below hb, fun x hx => (h.code x hx).below hb⟩
theorem SeenLn.below {w w1 : World} {ao : Option Addr} {cap : Nat} {l : List LinV} (h : SeenLn w ao cap l) (hb : Below w.heap.size w w1) : SeenLn w1 ao cap l := ⟨h.row.below hb, fun x hx => (h.code x hx).below hb⟩
theorem SeenT.at {w : World} {ao : Option Addr} {cap : Nat} {l : List TskV} (h : SeenT w ao cap l) (i : Nat) (hi : i < l.length) : ∃ b off, ao = some ⟨b, off, none⟩ ∧ b < w.heap.size ∧ AtT w b (off + i * 6) l[i] ∧ SeenI w l[i].ao l[i].cap l[i].t.code := by
  obtain ⟨b, off, h1, h2, h3⟩ := h.row.at i hi
  exact ⟨b, off, h1, h2, ⟨h3 0 (by omega), h3 1 (by omega), h3 2 (by omega), h3 3 (by omega), h3 4 (by omega), h3 5 (by omega)⟩, h.code _ (List.getElem_mem hi)⟩
theorem SeenLn.at {w : World} {ao : Option Addr} {cap : Nat} {l : List LinV} (h : SeenLn w ao cap l) (i : Nat) (hi : i < l.length) : ∃ b off, ao = some ⟨b, off, none⟩ ∧ b < w.heap.size ∧ AtLn w b (off + i * 2) l[i] ∧ SeenI w l[i].ao l[i].cap l[i].t.code := by
  obtain ⟨b, off, h1, h2, h3⟩ := h.row.at i hi
  exact ⟨b, off, h1, h2, ⟨h3 0 (by omega), h3 1 (by omega)⟩, h.code _ (List.getElem_mem hi)⟩
theorem seenZ_at {w : World} {ao : Option Addr} {cap : Nat} {l : List Int} (h : SeenZ w ao cap l) (i : Nat) (hi : i < l.length) : ∃ b off, ao = some ⟨b, off, none⟩ ∧ b < w.heap.size ∧ w.cell? ⟨b, off + i, none⟩ = some (.int .i64 l[i]) := by
  obtain ⟨b, off, h1, h2, h3⟩ := h.at i hi
  have := h3 0 (by omega)
  rw [Nat.mul_one, Nat.add_zero] at this
  exact ⟨b, off, h1, h2, this⟩
theorem SeenT.take {w : World} {ao : Option Addr} {cap : Nat} {l : List TskV} (h : SeenT w ao cap l) (k : Nat) : SeenT w ao cap (l.take k) := ⟨h.row.take k, fun x hx => h.code x (List.mem_of_mem_take hx)⟩
theorem SeenLn.take {w : World} {ao : Option Addr} {cap : Nat} {l : List LinV} (h : SeenLn w ao cap l) (k : Nat) : SeenLn w ao cap (l.take k) := ⟨h.row.take k, fun x hx => h.code x (List.mem_of_mem_take hx)⟩

/-- A system as it lies. -/
structure CfgV where
  tao : Option Addr
  tcap : Nat
  tasks : List TskV
  lao : Option Addr
  lcap : Nat
  lines : List LinV
  mtx : Int
  sao : Option Addr
  scap : Nat
  sems : List Int
  qao : Option Addr
  qcap : Nat
  queues : List Int
  mao : Option Addr
  mcap : Nat
  timers : List Int
  table : Int
  mask : Nat
  filter : Nat
  charge : Int
  cycle : Nat
  count : Nat

def CfgV.c (x : CfgV) : Cfg := ⟨x.tasks.map (·.t), x.lines.map (·.t), x.mtx, x.sems, x.queues, x.timers, x.table, x.mask, x.filter, x.charge, x.cycle, x.count⟩
def cfCells (x : CfgV) : Array Value := #[.slice x.tao x.tasks.length x.tcap, .slice x.lao x.lines.length x.lcap, .int .i64 x.mtx, .slice x.sao x.sems.length x.scap, .slice x.qao x.queues.length x.qcap, .slice x.mao x.timers.length x.mcap,
  .int .i64 x.table, .int .u32 (x.mask : Int), .int .u32 (x.filter : Int), .int .i64 x.charge, .int .u64 (x.cycle : Int), .int .u64 (x.count : Int)]
def cfV (x : CfgV) : Value := .agg (cfCells x)
def cfO (x : CfgV) : Obj := .cells (cfCells x) 28

/-- A block holds a system's numbers. -/
structure AtC (w : World) (b : Nat) (x : CfgV) : Prop where
  c0 : w.cell? ⟨b, 0, none⟩ = some (.slice x.tao x.tasks.length x.tcap)
  c1 : w.cell? ⟨b, 1, none⟩ = some (.slice x.lao x.lines.length x.lcap)
  c2 : w.cell? ⟨b, 2, none⟩ = some (.int .i64 x.mtx)
  c3 : w.cell? ⟨b, 3, none⟩ = some (.slice x.sao x.sems.length x.scap)
  c4 : w.cell? ⟨b, 4, none⟩ = some (.slice x.qao x.queues.length x.qcap)
  c5 : w.cell? ⟨b, 5, none⟩ = some (.slice x.mao x.timers.length x.mcap)
  c6 : w.cell? ⟨b, 6, none⟩ = some (.int .i64 x.table)
  c7 : w.cell? ⟨b, 7, none⟩ = some (.int .u32 (x.mask : Int))
  c8 : w.cell? ⟨b, 8, none⟩ = some (.int .u32 (x.filter : Int))
  c9 : w.cell? ⟨b, 9, none⟩ = some (.int .i64 x.charge)
  c10 : w.cell? ⟨b, 10, none⟩ = some (.int .u64 (x.cycle : Int))
  c11 : w.cell? ⟨b, 11, none⟩ = some (.int .u64 (x.count : Int))
theorem cfcells {w : World} {E : Nat} {x : CfgV} (h : w.heap[E]? = some (cfO x)) : AtC w E x := by
  refine ⟨?_, ?_, ?_, ?_, ?_, ?_, ?_, ?_, ?_, ?_, ?_, ?_⟩ <;> simp [World.cell?, h, cfO, cfCells]

/-- A system that lies there. -/
structure SeenC (w : World) (x : CfgV) : Prop where
  ts : SeenT w x.tao x.tcap x.tasks
  ls : SeenLn w x.lao x.lcap x.lines
  ss : SeenZ w x.sao x.scap x.sems
  qs : SeenZ w x.qao x.qcap x.queues
  ms : SeenZ w x.mao x.mcap x.timers
theorem SeenC.below {w w1 : World} {x : CfgV} (h : SeenC w x) (hb : Below w.heap.size w w1) : SeenC w1 x := ⟨h.ts.below hb, h.ls.below hb, h.ss.below hb, h.qs.below hb, h.ms.below hb⟩

/-- Its numbers fit their kinds. -/
structure CfFits (x : CfgV) : Prop where
  tk : ∀ t ∈ x.tasks, ∀ e ∈ t.t.code, e.k < 4294967296
  lk : ∀ t ∈ x.lines, ∀ e ∈ t.t.code, e.k < 4294967296
  ma : x.mask < 4294967296
  fi : x.filter < 4294967296
  cy : x.cycle < 18446744073709551616
  co : x.count < 18446744073709551616
  nt : ∀ t ∈ x.tasks, -9223372036854775808 ≤ t.t.lv ∧ t.t.lv ≤ 9223372036854775807
  ns : ∀ n ∈ x.sems, -9223372036854775808 ≤ n ∧ n ≤ 9223372036854775807

/-! ### Out of the reading that the row gives -/

set_option maxRecDepth 100000 in
theorem open_tsk {H : Type} {enc : TypeId × Value → H} {W : World} (fuel : Nat) (cs : List Value) (x : DataW H × List MemPlace)
    (h : DataW.trod enc Tryd.prog W 0 (fun _ => true) true fuel 39 cs = some x) : ∃ e : TskV, cs = tsk6 e ∧ SeenI W e.ao e.cap e.t.code ∧ (∀ i ∈ e.t.code, InsFits i) ∧ (-9223372036854775808 ≤ e.t.lv ∧ e.t.lv ≤ 9223372036854775807) := by
  obtain ⟨xs, n, _, _, hl, hxl, hg⟩ := DataW.trod_struct Tryd.underlying39 h
  rw [show Tryd.prog.cellsOf 39 = 6 from by kernel_rfl] at hl
  match cs, hl with
  | [c0, c1, c2, c3, c4, c5], _ =>
    have hx : xs.length = 6 := hxl
    match xs, hx with
    | [y0, y1, y2, y3, y4, y5], _ =>
      have f0 : DataW.trod enc Tryd.prog W 0 (fun _ => true) true n 3 (([c0, c1, c2, c3, c4, c5].drop 0).take (Tryd.prog.cellsOf 3)) = some y0 := hg 0 _ rfl
      have f1 : DataW.trod enc Tryd.prog W 0 (fun _ => true) true n 3 (([c0, c1, c2, c3, c4, c5].drop 1).take (Tryd.prog.cellsOf 3)) = some y1 := hg 1 _ rfl
      have f2 : DataW.trod enc Tryd.prog W 0 (fun _ => true) true n 3 (([c0, c1, c2, c3, c4, c5].drop 2).take (Tryd.prog.cellsOf 3)) = some y2 := hg 2 _ rfl
      have f3 : DataW.trod enc Tryd.prog W 0 (fun _ => true) true n 3 (([c0, c1, c2, c3, c4, c5].drop 3).take (Tryd.prog.cellsOf 3)) = some y3 := hg 3 _ rfl
      have f4 : DataW.trod enc Tryd.prog W 0 (fun _ => true) true n 3 (([c0, c1, c2, c3, c4, c5].drop 4).take (Tryd.prog.cellsOf 3)) = some y4 := hg 4 _ rfl
      have f5 : DataW.trod enc Tryd.prog W 0 (fun _ => true) true n 37 (([c0, c1, c2, c3, c4, c5].drop 5).take (Tryd.prog.cellsOf 37)) = some y5 := hg 5 _ rfl
      rw [show Tryd.prog.cellsOf 3 = 1 from by kernel_rfl] at f0 f1 f2 f3 f4
      rw [show Tryd.prog.cellsOf 37 = 1 from by kernel_rfl] at f5
      obtain ⟨z0, e0, _, g0⟩ := DataW.trod_int Tryd.underlying3 f0
      obtain ⟨z1, e1, _, g1⟩ := DataW.trod_int Tryd.underlying3 f1
      obtain ⟨z2, e2, _, g2⟩ := DataW.trod_int Tryd.underlying3 f2
      obtain ⟨z3, e3, _, g3⟩ := DataW.trod_int Tryd.underlying3 f3
      obtain ⟨z4, e4, _, g4⟩ := DataW.trod_int Tryd.underlying3 f4
      simp at e0 e1 e2 e3 e4
      have f5' : DataW.trod enc Tryd.prog W 0 (fun _ => true) true n 37 [c5] = some y5 := f5
      have hsl : ∃ ao len cap, c5 = .slice ao len cap := by
        rcases Deep.open_slice Tryd.underlying37 f5' with ⟨hcs, _⟩ | ⟨x, ll, c, m, n, D, Pl, hcs, _⟩
        · simp at hcs; exact ⟨_, _, _, hcs⟩
        · simp at hcs; exact ⟨_, _, _, hcs⟩
      obtain ⟨ao, len, cap, rfl⟩ := hsl
      obtain ⟨l, rfl, hs, hf⟩ := open_inss (H := H) (enc := enc) (W := W) (ao := ao) (len := len) (cap := cap) (d := y5.1) (ps := y5.2) ⟨n, f5'⟩
      exact ⟨⟨⟨z0, z1, z2, z3, z4, l⟩, ao, cap⟩, by rw [e0, e1, e2, e3, e4]; rfl, hs, hf, wf_i64 g0⟩

set_option maxRecDepth 100000 in
theorem open_lin {H : Type} {enc : TypeId × Value → H} {W : World} (fuel : Nat) (cs : List Value) (x : DataW H × List MemPlace)
    (h : DataW.trod enc Tryd.prog W 0 (fun _ => true) true fuel 43 cs = some x) : ∃ e : LinV, cs = lin2 e ∧ SeenI W e.ao e.cap e.t.code ∧ (∀ i ∈ e.t.code, InsFits i) := by
  obtain ⟨xs, n, _, _, hl, hxl, hg⟩ := DataW.trod_struct Tryd.underlying43 h
  rw [show Tryd.prog.cellsOf 43 = 2 from by kernel_rfl] at hl
  match cs, hl with
  | [c0, c1], _ =>
    have hx : xs.length = 2 := hxl
    match xs, hx with
    | [y0, y1], _ =>
      have f0 : DataW.trod enc Tryd.prog W 0 (fun _ => true) true n 3 (([c0, c1].drop 0).take (Tryd.prog.cellsOf 3)) = some y0 := hg 0 _ rfl
      have f1 : DataW.trod enc Tryd.prog W 0 (fun _ => true) true n 37 (([c0, c1].drop 1).take (Tryd.prog.cellsOf 37)) = some y1 := hg 1 _ rfl
      rw [show Tryd.prog.cellsOf 3 = 1 from by kernel_rfl] at f0
      rw [show Tryd.prog.cellsOf 37 = 1 from by kernel_rfl] at f1
      obtain ⟨z0, e0, _, g0⟩ := DataW.trod_int Tryd.underlying3 f0
      simp at e0
      have f1' : DataW.trod enc Tryd.prog W 0 (fun _ => true) true n 37 [c1] = some y1 := f1
      have hsl : ∃ ao len cap, c1 = .slice ao len cap := by
        rcases Deep.open_slice Tryd.underlying37 f1' with ⟨hcs, _⟩ | ⟨x, ll, c, m, n, D, Pl, hcs, _⟩
        · simp at hcs; exact ⟨_, _, _, hcs⟩
        · simp at hcs; exact ⟨_, _, _, hcs⟩
      obtain ⟨ao, len, cap, rfl⟩ := hsl
      obtain ⟨l, rfl, hs, hf⟩ := open_inss (H := H) (enc := enc) (W := W) (ao := ao) (len := len) (cap := cap) (d := y1.1) (ps := y1.2) ⟨n, f1'⟩
      exact ⟨⟨⟨z0, l⟩, ao, cap⟩, by rw [e0]; rfl, hs, hf⟩

theorem open_num {H : Type} {enc : TypeId × Value → H} {W : World} (fuel : Nat) (cs : List Value) (x : DataW H × List MemPlace)
    (h : DataW.trod enc Tryd.prog W 0 (fun _ => true) true fuel 3 cs = some x) : ∃ n : Int, cs = num1 n ∧ (-9223372036854775808 ≤ n ∧ n ≤ 9223372036854775807) := by
  obtain ⟨z0, e0, _, g0⟩ := DataW.trod_int Tryd.underlying3 h
  exact ⟨z0, e0, wf_i64 g0⟩

theorem slice_shape {H : Type} {enc : TypeId × Value → H} {W : World} {sl ty : TypeId} {n : Nat} {c1 : Value} {y : DataW H × List MemPlace} (hu : Tryd.prog.underlying sl = some (.slice ty)) (f1' : DataW.trod enc Tryd.prog W 0 (fun _ => true) true n sl [c1] = some y) : ∃ ao len cap, c1 = .slice ao len cap := by
  rcases Deep.open_slice hu f1' with ⟨hcs, _⟩ | ⟨x, ll, c, m, n, D, Pl, hcs, _⟩
  · simp at hcs; exact ⟨_, _, _, hcs⟩
  · simp at hcs; exact ⟨_, _, _, hcs⟩

set_option maxRecDepth 100000 in
set_option maxHeartbeats 1000000 in
theorem open_cfg {H : Type} {enc : TypeId × Value → H} {W : World} {r : Reach} {b0 : Nat} {v : Value} {d : DataW H} {ps : List MemPlace}
    (hv : Value.okWide Tryd.prog W r b0 28 v) (h : DataW.Trod enc Tryd.prog W 0 (fun _ => true) true 28 v d ps) : ∃ x : CfgV, v = cfV x ∧ SeenC W x ∧ CfFits x := by
  obtain ⟨cs, rfl, hsz⟩ := okWide_struct Tryd.underlying28 hv
  rw [show Tryd.prog.cellsOf 28 = 12 from by kernel_rfl] at hsz
  obtain ⟨fuel, hf⟩ := h
  obtain ⟨l⟩ := cs
  have hl : l.length = 12 := hsz
  match l, hl with
  | [c0, c1, c2, c3, c4, c5, c6, c7, c8, c9, c10, c11], _ =>
    obtain ⟨xs, n, _, _, _, hxl, hg⟩ := DataW.trod_struct Tryd.underlying28 hf
    have hx : xs.length = 12 := hxl
    match xs, hx with
    | [y0, y1, y2, y3, y4, y5, y6, y7, y8, y9, y10, y11], _ =>
      have f0 : DataW.trod enc Tryd.prog W 0 (fun _ => true) true n 22 (([c0, c1, c2, c3, c4, c5, c6, c7, c8, c9, c10, c11].drop 0).take (Tryd.prog.cellsOf 22)) = some y0 := hg 0 _ rfl
      have f1 : DataW.trod enc Tryd.prog W 0 (fun _ => true) true n 23 (([c0, c1, c2, c3, c4, c5, c6, c7, c8, c9, c10, c11].drop 1).take (Tryd.prog.cellsOf 23)) = some y1 := hg 1 _ rfl
      have f2 : DataW.trod enc Tryd.prog W 0 (fun _ => true) true n 3 (([c0, c1, c2, c3, c4, c5, c6, c7, c8, c9, c10, c11].drop 2).take (Tryd.prog.cellsOf 3)) = some y2 := hg 2 _ rfl
      have f3 : DataW.trod enc Tryd.prog W 0 (fun _ => true) true n 24 (([c0, c1, c2, c3, c4, c5, c6, c7, c8, c9, c10, c11].drop 3).take (Tryd.prog.cellsOf 24)) = some y3 := hg 3 _ rfl
      have f4 : DataW.trod enc Tryd.prog W 0 (fun _ => true) true n 24 (([c0, c1, c2, c3, c4, c5, c6, c7, c8, c9, c10, c11].drop 4).take (Tryd.prog.cellsOf 24)) = some y4 := hg 4 _ rfl
      have f5 : DataW.trod enc Tryd.prog W 0 (fun _ => true) true n 24 (([c0, c1, c2, c3, c4, c5, c6, c7, c8, c9, c10, c11].drop 5).take (Tryd.prog.cellsOf 24)) = some y5 := hg 5 _ rfl
      have f6 : DataW.trod enc Tryd.prog W 0 (fun _ => true) true n 3 (([c0, c1, c2, c3, c4, c5, c6, c7, c8, c9, c10, c11].drop 6).take (Tryd.prog.cellsOf 3)) = some y6 := hg 6 _ rfl
      have f7 : DataW.trod enc Tryd.prog W 0 (fun _ => true) true n 25 (([c0, c1, c2, c3, c4, c5, c6, c7, c8, c9, c10, c11].drop 7).take (Tryd.prog.cellsOf 25)) = some y7 := hg 7 _ rfl
      have f8 : DataW.trod enc Tryd.prog W 0 (fun _ => true) true n 25 (([c0, c1, c2, c3, c4, c5, c6, c7, c8, c9, c10, c11].drop 8).take (Tryd.prog.cellsOf 25)) = some y8 := hg 8 _ rfl
      have f9 : DataW.trod enc Tryd.prog W 0 (fun _ => true) true n 3 (([c0, c1, c2, c3, c4, c5, c6, c7, c8, c9, c10, c11].drop 9).take (Tryd.prog.cellsOf 3)) = some y9 := hg 9 _ rfl
      have f10 : DataW.trod enc Tryd.prog W 0 (fun _ => true) true n 26 (([c0, c1, c2, c3, c4, c5, c6, c7, c8, c9, c10, c11].drop 10).take (Tryd.prog.cellsOf 26)) = some y10 := hg 10 _ rfl
      have f11 : DataW.trod enc Tryd.prog W 0 (fun _ => true) true n 26 (([c0, c1, c2, c3, c4, c5, c6, c7, c8, c9, c10, c11].drop 11).take (Tryd.prog.cellsOf 26)) = some y11 := hg 11 _ rfl
      rw [show Tryd.prog.cellsOf 3 = 1 from by kernel_rfl] at f2 f6 f9
      rw [show Tryd.prog.cellsOf 25 = 1 from by kernel_rfl] at f7 f8
      rw [show Tryd.prog.cellsOf 26 = 1 from by kernel_rfl] at f10 f11
      rw [show Tryd.prog.cellsOf 22 = 1 from by kernel_rfl] at f0
      rw [show Tryd.prog.cellsOf 23 = 1 from by kernel_rfl] at f1
      rw [show Tryd.prog.cellsOf 24 = 1 from by kernel_rfl] at f3 f4 f5
      have f0' : DataW.trod enc Tryd.prog W 0 (fun _ => true) true n 22 [c0] = some y0 := f0
      have f1' : DataW.trod enc Tryd.prog W 0 (fun _ => true) true n 23 [c1] = some y1 := f1
      have f3' : DataW.trod enc Tryd.prog W 0 (fun _ => true) true n 24 [c3] = some y3 := f3
      have f4' : DataW.trod enc Tryd.prog W 0 (fun _ => true) true n 24 [c4] = some y4 := f4
      have f5' : DataW.trod enc Tryd.prog W 0 (fun _ => true) true n 24 [c5] = some y5 := f5
      obtain ⟨ao0, len0, cap0, rfl⟩ := slice_shape Tryd.underlying22 f0'
      obtain ⟨ao1, len1, cap1, rfl⟩ := slice_shape Tryd.underlying23 f1'
      obtain ⟨ao3, len3, cap3, rfl⟩ := slice_shape Tryd.underlying24 f3'
      obtain ⟨ao4, len4, cap4, rfl⟩ := slice_shape Tryd.underlying24 f4'
      obtain ⟨ao5, len5, cap5, rfl⟩ := slice_shape Tryd.underlying24 f5'
      obtain ⟨l0, rfl, s0, q0⟩ := open_rows Tryd.underlying22 (show Tryd.prog.cellsOf 39 = 6 from by kernel_rfl) (by decide) tsk6_len (fun e => SeenI W e.ao e.cap e.t.code ∧ (∀ i ∈ e.t.code, InsFits i) ∧ (-9223372036854775808 ≤ e.t.lv ∧ e.t.lv ≤ 9223372036854775807)) ⟨⟨0, 0, 0, 0, 0, []⟩, none, 0⟩ ⟨⟨by simp, by simp, fun _ => ⟨rfl, rfl⟩, fun i hi => by simp at hi⟩, by simp, by decide⟩ (open_tsk (H := H) (enc := enc)) (d := y0.1) (ps := y0.2) ⟨n, f0'⟩
      obtain ⟨l1, rfl, s1, q1⟩ := open_rows Tryd.underlying23 (show Tryd.prog.cellsOf 43 = 2 from by kernel_rfl) (by decide) lin2_len (fun e => SeenI W e.ao e.cap e.t.code ∧ (∀ i ∈ e.t.code, InsFits i)) ⟨⟨0, []⟩, none, 0⟩ ⟨⟨by simp, by simp, fun _ => ⟨rfl, rfl⟩, fun i hi => by simp at hi⟩, by simp⟩ (open_lin (H := H) (enc := enc)) (d := y1.1) (ps := y1.2) ⟨n, f1'⟩
      obtain ⟨l3, rfl, s3, q3⟩ := open_rows Tryd.underlying24 (show Tryd.prog.cellsOf 3 = 1 from by kernel_rfl) (by decide) num1_len (fun n => -9223372036854775808 ≤ n ∧ n ≤ 9223372036854775807) 0 (by decide) (open_num (H := H) (enc := enc) (W := W)) (d := y3.1) (ps := y3.2) ⟨n, f3'⟩
      obtain ⟨l4, rfl, s4, q4⟩ := open_rows Tryd.underlying24 (show Tryd.prog.cellsOf 3 = 1 from by kernel_rfl) (by decide) num1_len (fun n => -9223372036854775808 ≤ n ∧ n ≤ 9223372036854775807) 0 (by decide) (open_num (H := H) (enc := enc) (W := W)) (d := y4.1) (ps := y4.2) ⟨n, f4'⟩
      obtain ⟨l5, rfl, s5, q5⟩ := open_rows Tryd.underlying24 (show Tryd.prog.cellsOf 3 = 1 from by kernel_rfl) (by decide) num1_len (fun n => -9223372036854775808 ≤ n ∧ n ≤ 9223372036854775807) 0 (by decide) (open_num (H := H) (enc := enc) (W := W)) (d := y5.1) (ps := y5.2) ⟨n, f5'⟩
      obtain ⟨z2, e2, _, g2⟩ := DataW.trod_int Tryd.underlying3 f2
      obtain ⟨z6, e6, _, g6⟩ := DataW.trod_int Tryd.underlying3 f6
      obtain ⟨z7, e7, _, g7⟩ := DataW.trod_int Tryd.underlying25 f7
      obtain ⟨z8, e8, _, g8⟩ := DataW.trod_int Tryd.underlying25 f8
      obtain ⟨z9, e9, _, g9⟩ := DataW.trod_int Tryd.underlying3 f9
      obtain ⟨z10, e10, _, g10⟩ := DataW.trod_int Tryd.underlying26 f10
      obtain ⟨z11, e11, _, g11⟩ := DataW.trod_int Tryd.underlying26 f11
      simp at e2 e6 e7 e8 e9 e10 e11
      obtain ⟨m7, rfl, h7⟩ := wf_u32 g7
      obtain ⟨m8, rfl, h8⟩ := wf_u32 g8
      obtain ⟨m10, rfl, h10⟩ := wf_u64 g10
      obtain ⟨m11, rfl, h11⟩ := wf_u64 g11
      exact ⟨⟨ao0, cap0, l0, ao1, cap1, l1, z2, ao3, cap3, l3, ao4, cap4, l4, ao5, cap5, l5, z6, m7, m8, z9, m10, m11⟩, by rw [e2, e6, e7, e8, e9, e10, e11]; rfl,
        ⟨⟨s0, fun x hx => (q0 x hx).1⟩, ⟨s1, fun x hx => (q1 x hx).1⟩, s3, s4, s5⟩, ⟨fun t ht e he => ((q0 t ht).2.1 e he).k, fun t ht e he => ((q1 t ht).2 e he).k, h7, h8, h10, h11, fun t ht => (q0 t ht).2.2, q3⟩⟩

end Go.Proofs.YtbhnehacgkhpbaaDoor
