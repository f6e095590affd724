/-
  What the listed package-level variable isa.rows gives the walks: the cells of isa's table. Conditions: the row's own list of variables, which the card ties to the program's text.
-/
import Derived.Test.YtoalgajbahlpjaaDoorRows
import Derived.Test.YtoalgajbahlpjaaDoorIs0
import Derived.ProofKit
import Derived.OpenShut
import Derived.LaidMore
import Derived.Lay
import Derived.Stop.LaidErr
import Derived.Stop.Joined
import Derived.Lib.LaidTab
import Derived.Deep.Slices
namespace Go.Proofs.YtoalgajbahlpjaaDoor
open Go.ChangeShapes Go.WideShapes Go.ChangeAt Go.RowKit
set_option linter.unusedVariables false

/-- A row of the table, as the list tells it. -/
def irowD (r : List UInt8 × Nat × Int) : DataW Unit := .agg [.lit (.string r.1), .lit (.int .i64 (r.2.1 : Int)), .lit (.int .i64 r.2.2)]
theorem laid_irows : (Rows.laid_taffrail_isa_rows : DataW Unit) = .agg (irowsT.map irowD) := by kernel_rfl

set_option maxRecDepth 100000 in
theorem irow_cells {W : World} {fuel : Nat} {cs : List Value} {x : DataW Unit × List MemPlace} {r : List UInt8 × Nat × Int}
    (h : DataW.trod (fun _ => ()) Tryd.prog W 0 (fun _ => true) false fuel 66 cs = some x) (hx1 : x.1 = irowD r) :
    cs = [.string (bytesOf r.1), .int .i64 (r.2.1 : Int), .int .i64 r.2.2] := by
  obtain ⟨xs, n, _, hx, hl, hxl, hf⟩ := DataW.trod_struct Tryd.underlying66 h
  rw [show Tryd.prog.cellsOf 66 = 3 from by kernel_rfl] at hl
  match cs, hl with
  | [c0, c1, c2], _ =>
    have f0 : DataW.trod (fun _ => ()) Tryd.prog W 0 (fun _ => true) false n 9 (([c0, c1, c2].drop 0).take (Tryd.prog.cellsOf 9)) = xs[0]? := hf 0 _ rfl
    have f1 : DataW.trod (fun _ => ()) Tryd.prog W 0 (fun _ => true) false n 64 (([c0, c1, c2].drop 1).take (Tryd.prog.cellsOf 64)) = xs[1]? := hf 1 _ rfl
    have f2 : DataW.trod (fun _ => ()) Tryd.prog W 0 (fun _ => true) false n 3 (([c0, c1, c2].drop 2).take (Tryd.prog.cellsOf 3)) = xs[2]? := hf 2 _ rfl
    rw [show Tryd.prog.cellsOf 64 = 1 from by kernel_rfl] at f1
    rw [show Tryd.prog.cellsOf 3 = 1 from by kernel_rfl] at f2
    rw [show Tryd.prog.cellsOf 9 = 1 from by kernel_rfl] at f0
    have hx3 : xs.length = 3 := hxl
    match xs, hx3 with
    | [y0, y1, y2], _ =>
      obtain ⟨s, hs, hy0, _⟩ := DataW.trod_string Tryd.underlying9 f0
      obtain ⟨k1, hk1, hy1, _⟩ := DataW.trod_int Tryd.underlying64 f1
      obtain ⟨k2, hk2, hy2, _⟩ := DataW.trod_int Tryd.underlying3 f2
      simp at hs hk1 hk2
      have hx' : x.1 = .agg [y0.1, y1.1, y2.1] := by rw [hx]; rfl
      rw [hx1, hy0, hy1, hy2] at hx'
      simp only [irowD, DataW.agg.injEq, List.cons.injEq, DataW.lit.injEq, Lit.string.injEq, Lit.int.injEq, true_and, and_true] at hx'
      obtain ⟨e0, e1, e2⟩ := hx'
      rw [hs, hk1, hk2, e0, e1, e2, bytesOf_list]

/-- What the walks ask of a world. -/
structure IsL (w : World) : Prop where
  row : ∀ k, k < 39 → w.cell? ⟨0, k * 3, none⟩ = some (.string (inameB k)) ∧ w.cell? ⟨0, k * 3 + 1, none⟩ = some (.int .i64 (ihas k : Int)) ∧
    w.cell? ⟨0, k * 3 + 2, none⟩ = some (.int .i64 (icyc k))

theorem IsL.below {w w' : World} (h : IsL w) (hb : Below w.heap.size w w') : IsL w' := by
  refine ⟨fun k hk => ?_⟩
  obtain ⟨a, b, c⟩ := h.row k hk
  exact ⟨cell_kept hb a, cell_kept hb b, cell_kept hb c⟩

set_option maxRecDepth 100000 in
theorem isL_of {W : World} {r : List (String × DataW Unit)} (h : laidMet Tryd.prog (("taffrail/isa.rows", Rows.laid_taffrail_isa_rows) :: r) W) : IsL W := by
  refine ⟨?_⟩
  obtain ⟨ps, ⟨g0, t0, cs0, f0, p0, q0, hg0, ht0, hv0, hd0, _, _⟩, _, _⟩ := h
  obtain rfl := Option.some.inj ((show Tryd.prog.globalNamed "taffrail/isa.rows" = some 0 by kernel_rfl).symm.trans hg0)
  obtain rfl := Option.some.inj ((show (Tryd.prog.globals[0]?).map (·.type) = some 67 by kernel_rfl).symm.trans ht0)
  obtain ⟨xs, m, _, ex, hlen, hl, hel⟩ := DataW.trod_array Tryd.underlying67 hd0
  rw [show Tryd.prog.cellsOf 66 = 3 from by kernel_rfl] at hel
  have hmap : irowsT.map irowD = xs.map (·.1) := DataW.agg.inj (laid_irows.symm.trans (Prod.mk.inj ex).1)
  intro k hk
  have hE := hel k hk
  rw [List.getElem?_eq_getElem (by omega)] at hE
  have hx1 : (xs[k]'(by omega)).1 = irowD (irowT k) := by
    have e := congrArg (·[k]?) hmap
    have hr : irowsT.length = 39 := rfl
    simp only [List.getElem?_map, List.getElem?_eq_getElem (show k < irowsT.length by omega), List.getElem?_eq_getElem (show k < xs.length by omega), Option.map_some, Option.some.injEq] at e
    rw [← e, irowT, List.getD, List.getElem?_eq_getElem (show k < irowsT.length by omega)]; rfl
  have hc := irow_cells hE hx1
  have at' : ∀ j v, [Value.string (bytesOf (irowT k).1), .int .i64 ((irowT k).2.1 : Int), .int .i64 (irowT k).2.2][j]? = some v → W.cell? ⟨0, k * 3 + j, none⟩ = some v := by
    intro j v hj
    rw [World.var?_cell hg0 hv0, ← hj, ← hc]
    have hj3 : j < 3 := by
      have := (List.getElem?_eq_some_iff.1 hj).1
      simpa using this
    rw [List.getElem?_take, if_pos hj3, List.getElem?_drop]
    simp
  exact ⟨at' 0 _ rfl, at' 1 _ rfl, at' 2 _ rfl⟩

/-- An instruction, as a value; in a block of its own. -/
def insV (i : Ins) : Value := .agg #[.int .i64 i.op, .int .i64 i.a, .int .i64 i.b, .int .i64 i.c, .int .i64 i.d, .int .u32 (i.k : Int)]
def insO (i : Ins) : Obj := .cells #[.int .i64 i.op, .int .i64 i.a, .int .i64 i.b, .int .i64 i.c, .int .i64 i.d, .int .u32 (i.k : Int)] 28
theorem inscells {w : World} {E : Nat} {i : Ins} (h : w.heap[E]? = some (insO i)) :
    w.cell? ⟨E, 0, none⟩ = some (.int .i64 i.op) ∧ w.cell? ⟨E, 1, none⟩ = some (.int .i64 i.a) ∧ w.cell? ⟨E, 2, none⟩ = some (.int .i64 i.b) ∧
    w.cell? ⟨E, 3, none⟩ = some (.int .i64 i.c) ∧ w.cell? ⟨E, 4, none⟩ = some (.int .i64 i.d) ∧ w.cell? ⟨E, 5, none⟩ = some (.int .u32 (i.k : Int)) := by
  refine ⟨?_, ?_, ?_, ?_, ?_, ?_⟩ <;> simp [World.cell?, h, insO]

set_option maxRecDepth 100000 in
theorem open_ins {H : Type} {enc : TypeId × Value → H} {W : World} {r : Reach} {b0 : Nat} {v : Value} {d : DataW H} {ps : List MemPlace}
    (hv : Value.okWide Tryd.prog W r b0 28 v) (h : DataW.Trod enc Tryd.prog W 0 (fun _ => true) true 28 v d ps) : ∃ i : Ins, v = insV i ∧ InsFits i := by
  obtain ⟨cs, rfl, hsz⟩ := okWide_struct Tryd.underlying28 hv
  rw [show Tryd.prog.cellsOf 28 = 6 from by kernel_rfl] at hsz
  obtain ⟨fuel, hf⟩ := h
  obtain ⟨l⟩ := cs
  have hl : l.length = 6 := hsz
  match l, hl with
  | [c0, c1, c2, c3, c4, c5], _ =>
    obtain ⟨xs, n, _, _, _, hxl, hg⟩ := DataW.trod_struct Tryd.underlying28 hf
    have hx : xs.length = 6 := hxl
    match xs, hx with
    | [y0, y1, y2, y3, y4, y5], _ =>
      have f0 : DataW.trod enc Tryd.prog W 0 (fun _ => true) true n 3 (([c0, c1, c2, c3, c4, c5].drop 0).take (Tryd.prog.cellsOf 3)) = some y0 := hg 0 _ rfl
      have f1 : DataW.trod enc Tryd.prog W 0 (fun _ => true) true n 3 (([c0, c1, c2, c3, c4, c5].drop 1).take (Tryd.prog.cellsOf 3)) = some y1 := hg 1 _ rfl
      have f2 : DataW.trod enc Tryd.prog W 0 (fun _ => true) true n 3 (([c0, c1, c2, c3, c4, c5].drop 2).take (Tryd.prog.cellsOf 3)) = some y2 := hg 2 _ rfl
      have f3 : DataW.trod enc Tryd.prog W 0 (fun _ => true) true n 3 (([c0, c1, c2, c3, c4, c5].drop 3).take (Tryd.prog.cellsOf 3)) = some y3 := hg 3 _ rfl
      have f4 : DataW.trod enc Tryd.prog W 0 (fun _ => true) true n 3 (([c0, c1, c2, c3, c4, c5].drop 4).take (Tryd.prog.cellsOf 3)) = some y4 := hg 4 _ rfl
      have f5 : DataW.trod enc Tryd.prog W 0 (fun _ => true) true n 22 (([c0, c1, c2, c3, c4, c5].drop 5).take (Tryd.prog.cellsOf 22)) = some y5 := hg 5 _ rfl
      rw [show Tryd.prog.cellsOf 3 = 1 from by kernel_rfl] at f0 f1 f2 f3 f4
      rw [show Tryd.prog.cellsOf 22 = 1 from by kernel_rfl] at f5
      obtain ⟨z0, e0, _, g0⟩ := DataW.trod_int Tryd.underlying3 f0
      obtain ⟨z1, e1, _, g1⟩ := DataW.trod_int Tryd.underlying3 f1
      obtain ⟨z2, e2, _, g2⟩ := DataW.trod_int Tryd.underlying3 f2
      obtain ⟨z3, e3, _, g3⟩ := DataW.trod_int Tryd.underlying3 f3
      obtain ⟨z4, e4, _, g4⟩ := DataW.trod_int Tryd.underlying3 f4
      obtain ⟨z5, e5, _, g5⟩ := DataW.trod_int Tryd.underlying22 f5
      simp at e0 e1 e2 e3 e4 e5
      obtain ⟨p0, q0⟩ := wf_i64 g0
      obtain ⟨p1, q1⟩ := wf_i64 g1
      obtain ⟨p2, q2⟩ := wf_i64 g2
      obtain ⟨p3, q3⟩ := wf_i64 g3
      obtain ⟨p4, q4⟩ := wf_i64 g4
      obtain ⟨m5, rfl, h5⟩ := wf_u32 g5
      exact ⟨⟨z0, z1, z2, z3, z4, m5⟩, by rw [e0, e1, e2, e3, e4, e5]; rfl, ⟨p0, q0, p1, q1, p2, q2, p3, q3, p4, q4, h5⟩⟩

end Go.Proofs.YtoalgajbahlpjaaDoor
