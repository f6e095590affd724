/-
  Small steps round events in blocks: what a block with an event tells, one that is stored anew; an event that came in. No condition but the form's own.
-/
import Derived.Test.YtobioiicbdhboaaDoorEv1
import Derived.Deep.Slices
import Derived.Laws.ResultCell
namespace Go.Proofs.YtobioiicbdhboaaDoor
open Go.ChangeShapes Go.WideShapes Go.ChangeAt Go.RowKit
set_option linter.unusedVariables false

theorem grow_cell (w : World) (b i : Nat) (v : Value) : w.grownBy (w.setCell ⟨b, i, none⟩ v) (some b) :=
  ⟨rfl, rfl, rfl, by simp, fun k _ hk => heap_setCell_other w _ k v (fun h => hk (by simp [h]))⟩

theorem grown_trans {w w1 w2 : World} {row : Option Nat} (h : w.grownBy w1 row) (k : w1.grownBy w2 row) : w.grownBy w2 row :=
  ⟨k.os.trans h.os, k.tape.trans h.tape, k.output.trans h.output, Nat.le_trans h.size k.size, fun i hi hr => (k.block i (by have := h.size; omega) hr).trans (h.block i hi hr)⟩
theorem grown_below {w w1 : World} (row : Option Nat) (h : Below w.heap.size w w1) : w.grownBy w1 row :=
  ⟨h.os, h.tape, h.output, h.size, fun i hi _ => h.block i hi⟩
theorem below_grown {w0 w w1 : World} {B b : Nat} (h : Below B w0 w) (hB : B ≤ w.heap.size) (hb : B ≤ b) (k : w.grownBy w1 (some b)) : Below B w0 w1 :=
  h.grown k hB (fun i hi => by cases hi; exact hb)

theorem blk_lt {w : World} {b : Nat} {o : Obj} (h : w.heap[b]? = some o) : b < w.heap.size := by
  rcases Nat.lt_or_ge b w.heap.size with h' | h'
  · exact h'
  · rw [Array.getElem?_eq_none h'] at h; cases h

def evC (e : Ev) : Array Value := #[.int .i64 e.kind, .int .u64 (e.cyc : Int), .int .u64 (e.cnt : Int), .int .u32 (e.a : Int), .int .u32 (e.b : Int), .int .u32 (e.v : Int)]

theorem new_size {w w' : World} {o : Obj} (h : w' = w.alloc o) : w'.heap.size = w.heap.size + 1 ∧ w'.heap[w.heap.size]? = some o ∧ Below w.heap.size w w' := by
  subst h
  exact ⟨by simp, heap_alloc_new w _, (Below.refl _ w).alloc (Nat.le_refl _) _⟩

theorem evcells {w : World} {E : Nat} {e : Ev} (h : w.heap[E]? = some (evO e)) :
    w.cell? ⟨E, 0, none⟩ = some (.int .i64 e.kind) ∧ w.cell? ⟨E, 1, none⟩ = some (.int .u64 (e.cyc : Int)) ∧ w.cell? ⟨E, 2, none⟩ = some (.int .u64 (e.cnt : Int)) ∧
    w.cell? ⟨E, 3, none⟩ = some (.int .u32 (e.a : Int)) ∧ w.cell? ⟨E, 4, none⟩ = some (.int .u32 (e.b : Int)) ∧ w.cell? ⟨E, 5, none⟩ = some (.int .u32 (e.v : Int)) := by
  refine ⟨?_, ?_, ?_, ?_, ?_, ?_⟩ <;> simp [World.cell?, h, evO]
theorem evfree {w : World} {E : Nat} {e : Ev} (h : w.heap[E]? = some (evO e)) :
    w.frozen? ⟨E, 0, none⟩ = false ∧ w.frozen? ⟨E, 1, none⟩ = false ∧ w.frozen? ⟨E, 2, none⟩ = false ∧ w.frozen? ⟨E, 3, none⟩ = false ∧ w.frozen? ⟨E, 4, none⟩ = false ∧ w.frozen? ⟨E, 5, none⟩ = false := by
  refine ⟨?_, ?_, ?_, ?_, ?_, ?_⟩ <;> simp [World.frozen?, h, evO]

/-- An event, stored over another one. -/
def evSt (w : World) (B : Nat) (e : Ev) : World :=
  (((((w.setCell ⟨B, 0, none⟩ (.int .i64 e.kind)).setCell ⟨B, 1, none⟩ (.int .u64 (e.cyc : Int))).setCell ⟨B, 2, none⟩ (.int .u64 (e.cnt : Int))).setCell ⟨B, 3, none⟩ (.int .u32 (e.a : Int))).setCell ⟨B, 4, none⟩ (.int .u32 (e.b : Int))).setCell ⟨B, 5, none⟩ (.int .u32 (e.v : Int))
theorem ev_stored {w : World} {B : Nat} {e' e : Ev} (h : w.heap[B]? = some (evO e')) : (evSt w B e).heap[B]? = some (evO e) ∧ w.grownBy (evSt w B e) (some B) := by
  have h0 := heap_setCell_same w B 0 _ _ (.int .i64 e.kind) h
  have h1 := heap_setCell_same _ B 1 _ _ (.int .u64 (e.cyc : Int)) h0
  have h2 := heap_setCell_same _ B 2 _ _ (.int .u64 (e.cnt : Int)) h1
  have h3 := heap_setCell_same _ B 3 _ _ (.int .u32 (e.a : Int)) h2
  have h4 := heap_setCell_same _ B 4 _ _ (.int .u32 (e.b : Int)) h3
  have h5 := heap_setCell_same _ B 5 _ _ (.int .u32 (e.v : Int)) h4
  refine ⟨?_, ?_⟩
  · unfold evSt
    rw [h5]
    simp [evO]
  · unfold evSt
    exact grown_trans (grown_trans (grown_trans (grown_trans (grown_trans (grow_cell _ B 0 _) (grow_cell _ B 1 _)) (grow_cell _ B 2 _)) (grow_cell _ B 3 _)) (grow_cell _ B 4 _)) (grow_cell _ B 5 _)

/-- The numbers of an event fit their kinds. -/
structure EvFits (e : Ev) : Prop where
  k1 : -9223372036854775808 ≤ e.kind
  k2 : e.kind ≤ 9223372036854775807
  cyc : e.cyc < 18446744073709551616
  cnt : e.cnt < 18446744073709551616
  a : e.a < 4294967296
  b : e.b < 4294967296
  v : e.v < 4294967296

theorem wf_i64 {n : Int} (h : (Lit.int .i64 n).wf = true) : -9223372036854775808 ≤ n ∧ n ≤ 9223372036854775807 := by
  simp [Lit.wf, IntKind.min, IntKind.max, IntKind.signed, IntKind.bits] at h
  omega
theorem wf_u64 {n : Int} (h : (Lit.int .u64 n).wf = true) : ∃ m : Nat, n = m ∧ m < 18446744073709551616 := by
  simp [Lit.wf, IntKind.min, IntKind.max, IntKind.signed, IntKind.bits] at h
  exact ⟨n.toNat, by omega, by omega⟩
theorem wf_u32 {n : Int} (h : (Lit.int .u32 n).wf = true) : ∃ m : Nat, n = m ∧ m < 4294967296 := by
  simp [Lit.wf, IntKind.min, IntKind.max, IntKind.signed, IntKind.bits] at h
  exact ⟨n.toNat, by omega, by omega⟩

set_option maxRecDepth 100000 in
theorem open_ev {H : Type} {enc : TypeId × Value → H} {W : World} {r : Reach} {b0 : Nat} {v : Value} {d : DataW H} {ps : List MemPlace}
    (hv : Value.okWide Tryd.prog W r b0 69 v) (h : DataW.Trod enc Tryd.prog W 0 (fun _ => true) true 69 v d ps) : ∃ e : Ev, v = evV e ∧ EvFits e := by
  obtain ⟨cs, rfl, hsz⟩ := okWide_struct Tryd.underlying69 hv
  rw [show Tryd.prog.cellsOf 69 = 6 from by kernel_rfl] at hsz
  obtain ⟨fuel, hf⟩ := h
  obtain ⟨l⟩ := cs
  have hl : l.length = 6 := hsz
  match l, hl with
  | [c0, c1, c2, c3, c4, c5], _ =>
    obtain ⟨xs, n, _, _, _, hxl, hg⟩ := DataW.trod_struct Tryd.underlying69 hf
    have hx : xs.length = 6 := hxl
    match xs, hx with
    | [y0, y1, y2, y3, y4, y5], _ =>
      have f0 : DataW.trod enc Tryd.prog W 0 (fun _ => true) true n 3 (([c0, c1, c2, c3, c4, c5].drop 0).take (Tryd.prog.cellsOf 3)) = some y0 := hg 0 _ rfl
      have f1 : DataW.trod enc Tryd.prog W 0 (fun _ => true) true n 32 (([c0, c1, c2, c3, c4, c5].drop 1).take (Tryd.prog.cellsOf 32)) = some y1 := hg 1 _ rfl
      have f2 : DataW.trod enc Tryd.prog W 0 (fun _ => true) true n 32 (([c0, c1, c2, c3, c4, c5].drop 2).take (Tryd.prog.cellsOf 32)) = some y2 := hg 2 _ rfl
      have f3 : DataW.trod enc Tryd.prog W 0 (fun _ => true) true n 41 (([c0, c1, c2, c3, c4, c5].drop 3).take (Tryd.prog.cellsOf 41)) = some y3 := hg 3 _ rfl
      have f4 : DataW.trod enc Tryd.prog W 0 (fun _ => true) true n 41 (([c0, c1, c2, c3, c4, c5].drop 4).take (Tryd.prog.cellsOf 41)) = some y4 := hg 4 _ rfl
      have f5 : DataW.trod enc Tryd.prog W 0 (fun _ => true) true n 41 (([c0, c1, c2, c3, c4, c5].drop 5).take (Tryd.prog.cellsOf 41)) = some y5 := hg 5 _ rfl
      rw [show Tryd.prog.cellsOf 3 = 1 from by kernel_rfl] at f0
      rw [show Tryd.prog.cellsOf 32 = 1 from by kernel_rfl] at f1 f2
      rw [show Tryd.prog.cellsOf 41 = 1 from by kernel_rfl] at f3 f4 f5
      obtain ⟨k, e0, _, g0⟩ := DataW.trod_int Tryd.underlying3 f0
      obtain ⟨z1, e1, _, g1⟩ := DataW.trod_int Tryd.underlying32 f1
      obtain ⟨z2, e2, _, g2⟩ := DataW.trod_int Tryd.underlying32 f2
      obtain ⟨z3, e3, _, g3⟩ := DataW.trod_int Tryd.underlying41 f3
      obtain ⟨z4, e4, _, g4⟩ := DataW.trod_int Tryd.underlying41 f4
      obtain ⟨z5, e5, _, g5⟩ := DataW.trod_int Tryd.underlying41 f5
      simp at e0 e1 e2 e3 e4 e5
      obtain ⟨k1, k2⟩ := wf_i64 g0
      obtain ⟨m1, rfl, h1⟩ := wf_u64 g1
      obtain ⟨m2, rfl, h2⟩ := wf_u64 g2
      obtain ⟨m3, rfl, h3⟩ := wf_u32 g3
      obtain ⟨m4, rfl, h4⟩ := wf_u32 g4
      obtain ⟨m5, rfl, h5⟩ := wf_u32 g5
      exact ⟨⟨k, m1, m2, m3, m4, m5⟩, by rw [e0, e1, e2, e3, e4, e5]; rfl, ⟨k1, k2, h1, h2, h3, h4, h5⟩⟩

end Go.Proofs.YtobioiicbdhboaaDoor
