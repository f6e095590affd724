/-
  What the listed package-level variable gives the walks: the cells of event's table. For a seat whose rows list event.rows alone. Conditions: the row's own list of variables, which the card ties to the program's text.
-/
import Derived.Test.YtobioiicbdhboaaDoorRows
import Derived.Test.YtobioiicbdhboaaDoorEvK
import Derived.ProofKit
import Derived.OpenShut
import Derived.LaidMore
import Derived.Lay
import Derived.Stop.LaidErr
import Derived.Stop.Joined
import Derived.Lib.LaidTab
namespace Go.Proofs.YtobioiicbdhboaaDoor
open Go.ChangeShapes Go.WideShapes Go.ChangeAt Go.RowKit
set_option linter.unusedVariables false

def laidL : List (String × DataW Unit) := [("taffrail/event.rows", Rows.laid_taffrail_event_rows)]

/-- A row of the table, as the list tells it. -/
def rowD (r : List UInt8 × Int × Int × Int) : DataW Unit := .agg [.lit (.string r.1), .lit (.int .i64 r.2.1), .lit (.int .i64 r.2.2.1), .lit (.int .i64 r.2.2.2)]
theorem laid_rows : (Rows.laid_taffrail_event_rows : DataW Unit) = .agg (rowsT.map rowD) := by kernel_rfl

def bytesOf (l : List UInt8) : ByteArray := ⟨l.toArray⟩
theorem bytesOf_list (s : ByteArray) : bytesOf s.data.toList = s := by unfold bytesOf; simp
theorem bytesOf_data (l : List UInt8) : (bytesOf l).data.toList = l := by unfold bytesOf; simp
theorem bytesOf_size (l : List UInt8) : (bytesOf l).size = l.length := by unfold bytesOf; simp [ByteArray.size]
def nameB (k : Nat) : ByteArray := bytesOf (nameL k)

set_option maxRecDepth 100000 in
theorem row_cells {W : World} {fuel : Nat} {cs : List Value} {x : DataW Unit × List MemPlace} {r : List UInt8 × Int × Int × Int}
    (h : DataW.trod (fun _ => ()) Tryd.prog W 0 (fun _ => true) false fuel 140 cs = some x) (hx1 : x.1 = rowD r) :
    cs = [.string (bytesOf r.1), .int .i64 r.2.1, .int .i64 r.2.2.1, .int .i64 r.2.2.2] := by
  obtain ⟨xs, n, _, hx, hl, hxl, hf⟩ := DataW.trod_struct Tryd.underlying140 h
  rw [show Tryd.prog.cellsOf 140 = 4 from by kernel_rfl] at hl
  match cs, hl with
  | [c0, c1, c2, c3], _ =>
    have f0 : DataW.trod (fun _ => ()) Tryd.prog W 0 (fun _ => true) false n 9 (([c0, c1, c2, c3].drop 0).take (Tryd.prog.cellsOf 9)) = xs[0]? := hf 0 _ rfl
    have f1 : DataW.trod (fun _ => ()) Tryd.prog W 0 (fun _ => true) false n 138 (([c0, c1, c2, c3].drop 1).take (Tryd.prog.cellsOf 138)) = xs[1]? := hf 1 _ rfl
    have f2 : DataW.trod (fun _ => ()) Tryd.prog W 0 (fun _ => true) false n 138 (([c0, c1, c2, c3].drop 2).take (Tryd.prog.cellsOf 138)) = xs[2]? := hf 2 _ rfl
    have f3 : DataW.trod (fun _ => ()) Tryd.prog W 0 (fun _ => true) false n 138 (([c0, c1, c2, c3].drop 3).take (Tryd.prog.cellsOf 138)) = xs[3]? := hf 3 _ rfl
    rw [show Tryd.prog.cellsOf 138 = 1 from by kernel_rfl] at f1 f2 f3
    rw [show Tryd.prog.cellsOf 9 = 1 from by kernel_rfl] at f0
    have hx4 : xs.length = 4 := hxl
    match xs, hx4 with
    | [y0, y1, y2, y3], _ =>
      obtain ⟨s, hs, hy0, _⟩ := DataW.trod_string Tryd.underlying9 f0
      obtain ⟨k1, hk1, hy1, _⟩ := DataW.trod_int Tryd.underlying138 f1
      obtain ⟨k2, hk2, hy2, _⟩ := DataW.trod_int Tryd.underlying138 f2
      obtain ⟨k3, hk3, hy3, _⟩ := DataW.trod_int Tryd.underlying138 f3
      simp at hs hk1 hk2 hk3
      have hx' : x.1 = .agg [y0.1, y1.1, y2.1, y3.1] := by rw [hx]; rfl
      rw [hx1, hy0, hy1, hy2, hy3] at hx'
      simp only [rowD, DataW.agg.injEq, List.cons.injEq, DataW.lit.injEq, Lit.string.injEq, Lit.int.injEq, true_and, and_true] at hx'
      obtain ⟨e0, e1, e2, e3⟩ := hx'
      rw [hs, hk1, hk2, hk3, e0, e1, e2, e3, bytesOf_list]

/-- What the walks ask of a world. -/
structure EvL (w : World) : Prop where
  row : ∀ k, k < 25 → w.cell? ⟨0, k * 4, none⟩ = some (.string (nameB k)) ∧ w.cell? ⟨0, k * 4 + 1, none⟩ = some (.int .i64 (spanA k)) ∧
    w.cell? ⟨0, k * 4 + 2, none⟩ = some (.int .i64 (spanB k)) ∧ w.cell? ⟨0, k * 4 + 3, none⟩ = some (.int .i64 (spanV k))

theorem cell_kept {w w' : World} (hb : Below w.heap.size w w') {a : Addr} {v : Value} (hc : w.cell? a = some v) : w'.cell? a = some v := (hb.cell (World.block_lt_of_cell? w a hc)).trans hc

theorem EvL.below {w w' : World} (h : EvL w) (hb : Below w.heap.size w w') : EvL w' := by
  refine ⟨fun k hk => ?_⟩
  obtain ⟨a, b, c, d⟩ := h.row k hk
  exact ⟨cell_kept hb a, cell_kept hb b, cell_kept hb c, cell_kept hb d⟩
/-- What was there ahead of block b stays, and the table lies there. -/
theorem EvL.lt {w : World} (h : EvL w) : 0 < w.heap.size := World.block_lt_of_cell? w _ (h.row 0 (by decide)).1
theorem EvL.belowB {w w' : World} {B : Nat} (h : EvL w) (hb : Below B w w') (hB : 0 < B) : EvL w' := by
  refine ⟨fun k hk => ?_⟩
  obtain ⟨a, b, c, d⟩ := h.row k hk
  exact ⟨(hb.cell hB).trans a, (hb.cell hB).trans b, (hb.cell hB).trans c, (hb.cell hB).trans d⟩
theorem EvL.kept {w w' : World} {b : Nat} (h : EvL w) (hg : w.grownBy w' (some b)) (hb : 0 < b) : EvL w' := by
  have hB : w'.heap[0]? = w.heap[0]? := hg.block _ h.lt (by simp; omega)
  refine ⟨fun k hk => ?_⟩
  obtain ⟨p, q, r, s⟩ := h.row k hk
  exact ⟨(World.cell?_of_block (w := w) hB).trans p, (World.cell?_of_block (w := w) hB).trans q, (World.cell?_of_block (w := w) hB).trans r, (World.cell?_of_block (w := w) hB).trans s⟩

set_option maxRecDepth 100000 in
theorem of_laid {W : World} (h : laidMetH Tryd.prog laidL W) (hsh : W.ShapedOpen Tryd.prog) : EvL W := by
  rw [MakeChecks.laidMetH_plain _ _ _ (by kernel_rfl)] at h
  refine ⟨?_⟩
  · obtain ⟨ps, ⟨g0, t0, cs0, f0, p0, q0, hg0, ht0, hv0, hd0, _, _⟩, _, _⟩ := h
    obtain rfl := Option.some.inj ((show Tryd.prog.globalNamed "taffrail/event.rows" = some 0 by kernel_rfl).symm.trans hg0)
    obtain rfl := Option.some.inj ((show (Tryd.prog.globals[0]?).map (·.type) = some 141 by kernel_rfl).symm.trans ht0)
    obtain ⟨xs, m, _, ex, hlen, hl, hel⟩ := DataW.trod_array Tryd.underlying141 hd0
    rw [show Tryd.prog.cellsOf 140 = 4 from by kernel_rfl] at hel
    have hmap : rowsT.map rowD = xs.map (·.1) := DataW.agg.inj (laid_rows.symm.trans (Prod.mk.inj ex).1)
    intro k hk
    have hE := hel k hk
    rw [List.getElem?_eq_getElem (by omega)] at hE
    have hx1 : (xs[k]'(by omega)).1 = rowD (rowT k) := by
      have e := congrArg (·[k]?) hmap
      have hr : rowsT.length = 25 := rfl
      simp only [List.getElem?_map, List.getElem?_eq_getElem (show k < rowsT.length by omega), List.getElem?_eq_getElem (show k < xs.length by omega), Option.map_some, Option.some.injEq] at e
      rw [← e, rowT, List.getD, List.getElem?_eq_getElem (show k < rowsT.length by omega)]; rfl
    have hc := row_cells hE hx1
    have at' : ∀ j v, [Value.string (bytesOf (rowT k).1), .int .i64 (rowT k).2.1, .int .i64 (rowT k).2.2.1, .int .i64 (rowT k).2.2.2][j]? = some v → W.cell? ⟨0, k * 4 + j, none⟩ = some v := by
      intro j v hj
      rw [World.var?_cell hg0 hv0, ← hj, ← hc]
      have hj4 : j < 4 := by
        have := (List.getElem?_eq_some_iff.1 hj).1
        simpa using this
      rw [List.getElem?_take, if_pos hj4, List.getElem?_drop]
      simp
    exact ⟨at' 0 _ rfl, at' 1 _ rfl, at' 2 _ rfl, at' 3 _ rfl⟩

end Go.Proofs.YtobioiicbdhboaaDoor
