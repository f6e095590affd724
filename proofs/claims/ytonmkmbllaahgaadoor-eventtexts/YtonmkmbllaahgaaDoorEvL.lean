/-
  What the listed package-level variables give the walks: the cells of event's table, of the powers of ten, of strconv's two errors, and that internal/bytealg.MaxLen holds some int. Conditions: the row's own list of variables, which the card ties to the program's text.
-/
import Derived.Test.YtonmkmbllaahgaaDoorRows
import Derived.Test.YtonmkmbllaahgaaDoorEvK
import Derived.ProofKit
import Derived.OpenShut
import Derived.LaidMore
import Derived.Lay
import Derived.Stop.LaidErr
import Derived.Stop.Joined
import Derived.Lib.LaidTab
import Derived.Test.YtonmkmbllaahgaaDoorShelf
namespace Go.Proofs.YtonmkmbllaahgaaDoor
open Go.ChangeShapes Go.WideShapes Go.ChangeAt Go.RowKit
set_option linter.unusedVariables false

def laidL : List (String × DataW Unit) := Rows.eventChecksRow.laid

/-- A row of the table, as the list tells it. -/
def rowD (r : List UInt8 × Int × Int × Int) : DataW Unit := .agg [.lit (.string r.1), .lit (.int .i64 r.2.1), .lit (.int .i64 r.2.2.1), .lit (.int .i64 r.2.2.2)]
theorem laid_rows : (Rows.laid_taffrail_event_rows : DataW Unit) = .agg (rowsT.map rowD) := by kernel_rfl
theorem laid_pow : (Rows.laid_internal_strconv_uint64pow10 : DataW Unit) = Lib.tabData .u64 Lib.pow10Tab := by kernel_rfl

def bytesOf (l : List UInt8) : ByteArray := ⟨l.toArray⟩
theorem bytesOf_list (s : ByteArray) : bytesOf s.data.toList = s := by unfold bytesOf; simp
theorem bytesOf_data (l : List UInt8) : (bytesOf l).data.toList = l := by unfold bytesOf; simp
theorem bytesOf_size (l : List UInt8) : (bytesOf l).size = l.length := by unfold bytesOf; simp [ByteArray.size]
def nameB (k : Nat) : ByteArray := bytesOf (nameL k)

set_option maxRecDepth 100000 in
theorem row_cells {W : World} {fuel : Nat} {cs : List Value} {x : DataW Unit × List MemPlace} {r : List UInt8 × Int × Int × Int}
    (h : DataW.trod (fun _ => ()) Tryd.prog W 0 (fun _ => true) false fuel 54 cs = some x) (hx1 : x.1 = rowD r) :
    cs = [.string (bytesOf r.1), .int .i64 r.2.1, .int .i64 r.2.2.1, .int .i64 r.2.2.2] := by
  obtain ⟨xs, n, _, hx, hl, hxl, hf⟩ := DataW.trod_struct Tryd.underlying54 h
  rw [show Tryd.prog.cellsOf 54 = 4 from by kernel_rfl] at hl
  match cs, hl with
  | [c0, c1, c2, c3], _ =>
    have f0 : DataW.trod (fun _ => ()) Tryd.prog W 0 (fun _ => true) false n 9 (([c0, c1, c2, c3].drop 0).take (Tryd.prog.cellsOf 9)) = xs[0]? := hf 0 _ rfl
    have f1 : DataW.trod (fun _ => ()) Tryd.prog W 0 (fun _ => true) false n 52 (([c0, c1, c2, c3].drop 1).take (Tryd.prog.cellsOf 52)) = xs[1]? := hf 1 _ rfl
    have f2 : DataW.trod (fun _ => ()) Tryd.prog W 0 (fun _ => true) false n 52 (([c0, c1, c2, c3].drop 2).take (Tryd.prog.cellsOf 52)) = xs[2]? := hf 2 _ rfl
    have f3 : DataW.trod (fun _ => ()) Tryd.prog W 0 (fun _ => true) false n 52 (([c0, c1, c2, c3].drop 3).take (Tryd.prog.cellsOf 52)) = xs[3]? := hf 3 _ rfl
    rw [show Tryd.prog.cellsOf 52 = 1 from by kernel_rfl] at f1 f2 f3
    rw [show Tryd.prog.cellsOf 9 = 1 from by kernel_rfl] at f0
    have hx4 : xs.length = 4 := hxl
    match xs, hx4 with
    | [y0, y1, y2, y3], _ =>
      obtain ⟨s, hs, hy0, _⟩ := DataW.trod_string Tryd.underlying9 f0
      obtain ⟨k1, hk1, hy1, _⟩ := DataW.trod_int Tryd.underlying52 f1
      obtain ⟨k2, hk2, hy2, _⟩ := DataW.trod_int Tryd.underlying52 f2
      obtain ⟨k3, hk3, hy3, _⟩ := DataW.trod_int Tryd.underlying52 f3
      simp at hs hk1 hk2 hk3
      have hx' : x.1 = .agg [y0.1, y1.1, y2.1, y3.1] := by rw [hx]; rfl
      rw [hx1, hy0, hy1, hy2, hy3] at hx'
      simp only [rowD, DataW.agg.injEq, List.cons.injEq, DataW.lit.injEq, Lit.string.injEq, Lit.int.injEq, true_and, and_true] at hx'
      obtain ⟨e0, e1, e2, e3⟩ := hx'
      rw [hs, hk1, hk2, hk3, e0, e1, e2, e3, bytesOf_list]

/-- What the walks ask of a world. -/
structure EvL (w : World) : Prop where
  row : ∀ k, k < 25 → w.cell? ⟨0, k * 4, none⟩ = some (.string (nameB k)) ∧ w.cell? ⟨0, k * 4 + 1, none⟩ = some (.int .i64 (spanA k)) ∧
    w.cell? ⟨0, k * 4 + 2, none⟩ = some (.int .i64 (spanB k)) ∧ w.cell? ⟨0, k * 4 + 3, none⟩ = some (.int .i64 (spanV k))
  pow : Lib.TabIs Tryd.prog w "internal/strconv.uint64pow10" .u64 Lib.pow10Tab
  mx : ∃ m, w.cell? ⟨4, 0, none⟩ = some (.int .i64 m)
  syn : ∃ te pe, w.cell? ⟨5, 0, none⟩ = some (.iface te pe)
  rng : ∃ te pe, w.cell? ⟨6, 0, none⟩ = some (.iface te pe)

theorem cell_kept {w w' : World} (hb : Below w.heap.size w w') {a : Addr} {v : Value} (hc : w.cell? a = some v) : w'.cell? a = some v := (hb.cell (World.block_lt_of_cell? w a hc)).trans hc

theorem EvL.below {w w' : World} (h : EvL w) (hb : Below w.heap.size w w') : EvL w' := by
  refine ⟨fun k hk => ?_, ?_, ?_, ?_, ?_⟩
  · obtain ⟨a, b, c, d⟩ := h.row k hk
    exact ⟨cell_kept hb a, cell_kept hb b, cell_kept hb c, cell_kept hb d⟩
  · have hp := h.pow
    have hg : Tryd.prog.globalNamed "internal/strconv.uint64pow10" = some 1 := by kernel_rfl
    unfold Lib.TabIs World.var? at hp ⊢
    rw [hg] at hp ⊢
    simp only [Option.bind_some] at hp ⊢
    have hlt : 1 < w.heap.size := by
      rcases Nat.lt_or_ge 1 w.heap.size with h' | h'
      · exact h'
      · rw [Array.getElem?_eq_none h'] at hp; cases hp
    rw [hb.block _ hlt]
    exact hp
  · obtain ⟨m, hm⟩ := h.mx; exact ⟨m, cell_kept hb hm⟩
  · obtain ⟨a, b, hm⟩ := h.syn; exact ⟨a, b, cell_kept hb hm⟩
  · obtain ⟨a, b, hm⟩ := h.rng; exact ⟨a, b, cell_kept hb hm⟩

set_option maxRecDepth 100000 in
theorem iface_var {W : World} {n nm : String} {d : DataW Unit} {r : List (String × DataW Unit)} {g : Nat} (h : laidMet Tryd.prog ((n, .iface nm d) :: r) W)
    (hg : Tryd.prog.globalNamed n = some g) (ht : (Tryd.prog.globals[g]?).map (·.type) = some 81) : ∃ te pe, W.cell? ⟨g, 0, none⟩ = some (.iface te pe) := by
  obtain ⟨ps, ⟨g0, t0, cs0, f0, p0, q0, hg0, ht0, hv0, hd0, _, _⟩, _, _⟩ := h
  obtain rfl := Option.some.inj (hg.symm.trans hg0)
  obtain rfl := Option.some.inj (ht.symm.trans ht0)
  obtain ⟨_, u, v, hcs, _, _⟩ := iface_of_trod Tryd.underlying81 hd0
  refine ⟨u, v, ?_⟩
  rw [World.var?_cell hg0 hv0 0, Array.eq_one_of_toList hcs]
  rfl

set_option maxRecDepth 100000 in
theorem of_laid {W : World} (h : laidMetH Tryd.prog laidL W) (hsh : W.ShapedOpen Tryd.prog) : EvL W := by
  rw [MakeChecks.laidMetH_plain _ _ _ (by kernel_rfl)] at h
  have h2 := h.tail.tail
  have h4 := h2.tail.tail
  have h5 := h4.tail
  have h6 := h5.tail
  refine ⟨?_, ?_, ?_, ?_, ?_⟩
  · obtain ⟨ps, ⟨g0, t0, cs0, f0, p0, q0, hg0, ht0, hv0, hd0, _, _⟩, _, _⟩ := h6
    obtain rfl := Option.some.inj ((show Tryd.prog.globalNamed "taffrail/event.rows" = some 0 by kernel_rfl).symm.trans hg0)
    obtain rfl := Option.some.inj ((show (Tryd.prog.globals[0]?).map (·.type) = some 55 by kernel_rfl).symm.trans ht0)
    obtain ⟨xs, m, _, ex, hlen, hl, hel⟩ := DataW.trod_array Tryd.underlying55 hd0
    rw [show Tryd.prog.cellsOf 54 = 4 from by kernel_rfl] at hel
    have hmap : rowsT.map rowD = xs.map (·.1) := DataW.agg.inj (laid_rows.symm.trans (Prod.mk.inj ex).1)
    intro k hk
    have hE := hel k hk
    rw [List.getElem?_eq_getElem (by omega)] at hE
    have hx1 : (xs[k]'(by omega)).1 = rowD (rowT k) := by
      have e := congrArg (·[k]?) hmap
      have hr : rowsT.length = 25 := rfl
      simp only [List.getElem?_map, List.getElem?_eq_getElem (show k < rowsT.length by omega), List.getElem?_eq_getElem (show k < xs.length by omega), Option.map_some, Option.some.injEq] at e
      rw [← e, rowT, List.getD, List.getElem?_eq_getElem (show k < rowsT.length by omega)]; rfl
    have hc := row_cells hE hx1
    have at' : ∀ j v, [Value.string (bytesOf (rowT k).1), .int .i64 (rowT k).2.1, .int .i64 (rowT k).2.2.1, .int .i64 (rowT k).2.2.2][j]? = some v → W.cell? ⟨0, k * 4 + j, none⟩ = some v := by
      intro j v hj
      rw [World.var?_cell hg0 hv0, ← hj, ← hc]
      have hj4 : j < 4 := by
        have := (List.getElem?_eq_some_iff.1 hj).1
        simpa using this
      rw [List.getElem?_take, if_pos hj4, List.getElem?_drop]
      simp
    exact ⟨at' 0 _ rfl, at' 1 _ rfl, at' 2 _ rfl, at' 3 _ rfl⟩
  · have h2' : laidMet Tryd.prog (("internal/strconv.uint64pow10", Lib.tabData .u64 Lib.pow10Tab) :: _) W := laid_pow ▸ h2
    exact Lib.tabIs_of_head (g := 1) (by kernel_rfl) (by kernel_rfl) Tryd.underlying86 Tryd.underlying22 (by kernel_rfl) (by kernel_rfl) h2'
  · exact Tryd.laysM147.s1_3 W hsh
  · exact iface_var h5 (by kernel_rfl) (by kernel_rfl)
  · exact iface_var h4 (by kernel_rfl) (by kernel_rfl)

end Go.Proofs.YtonmkmbllaahgaaDoor
