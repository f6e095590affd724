/-
  Queues and the document's queues side by side, of the call's own; calls and numbers that came in; what the statements' scripts do to rows. No condition.
-/
import Derived.Test.YtdcadiphebcmbaaDoorRy14
import Derived.OpenShut
import Derived.HandedShaped
namespace Go.Proofs.YtdcadiphebcmbaaDoor
open Go Go.ChangeShapes Go.WideShapes Go.ChangeAt Go.RowKit
set_option linter.unusedVariables false
set_option linter.unusedSimpArgs false

/-! ### What came in -/
def op3 (o : Int × Int × Int) : List Value := [.int .i64 o.1, .int .i64 o.2.1, .int .i64 o.2.2]
theorem op3_len (o : Int × Int × Int) : (op3 o).length = 3 := rfl
def z1 (z : Int) : List Value := [.int .i64 z]
theorem z1_len (z : Int) : (z1 z).length = 1 := rfl
abbrev SeenOp (w : World) (ao : Option Addr) (cap : Nat) (l : List (Int × Int × Int)) : Prop := SeenR 3 op3 w ao cap l
abbrev SeenZ (w : World) (ao : Option Addr) (cap : Nat) (l : List Int) : Prop := SeenR 1 z1 w ao cap l
theorem seenOp_at {w : World} {ao : Option Addr} {cap : Nat} {l : List (Int × Int × Int)} (h : SeenOp w ao cap l) (i : Nat) (hi : i < l.length) : ∃ b off, ao = some ⟨b, off, none⟩ ∧ b < w.heap.size ∧
    w.cell? ⟨b, off + i * 3, none⟩ = some (.int .i64 (l[i]).1) ∧ w.cell? ⟨b, off + i * 3 + 1, none⟩ = some (.int .i64 (l[i]).2.1) ∧ w.cell? ⟨b, off + i * 3 + 2, none⟩ = some (.int .i64 (l[i]).2.2) := by
  obtain ⟨b, off, h1, h2, h3⟩ := h.at i hi
  exact ⟨b, off, h1, h2, h3 0 (by omega), h3 1 (by omega), h3 2 (by omega)⟩
theorem seenZ_at {w : World} {ao : Option Addr} {cap : Nat} {l : List Int} (h : SeenZ w ao cap l) (i : Nat) (hi : i < l.length) : ∃ b off, ao = some ⟨b, off, none⟩ ∧ b < w.heap.size ∧ w.cell? ⟨b, off + i, none⟩ = some (.int .i64 l[i]) := by
  obtain ⟨b, off, h1, h2, h3⟩ := h.at i hi
  have := h3 0 (by omega)
  rw [Nat.mul_one, Nat.add_zero] at this
  exact ⟨b, off, h1, h2, this⟩

theorem open_num {H : Type} {enc : TypeId × Value → H} {W : World} (fuel : Nat) (cs : List Value) (x : DataW H × List MemPlace)
    (h : DataW.trod enc Tryd.prog W 0 (fun _ => true) true fuel 3 cs = some x) : ∃ n : Int, cs = z1 n ∧ (Lit.int .i64 n).wf = true := by
  obtain ⟨z0, e0, _, g0⟩ := DataW.trod_int Tryd.underlying3 h
  exact ⟨z0, e0, g0⟩
theorem open_zs {H : Type} {enc : TypeId × Value → H} {W : World} {ao : Option Addr} {len cap : Nat} {d : DataW H} {ps : List MemPlace}
    (h : DataW.Trod enc Tryd.prog W 0 (fun _ => true) true 33 (.slice ao len cap) d ps) : ∃ l : List Int, l.length = len ∧ SeenZ W ao cap l ∧ ∀ z ∈ l, (Lit.int .i64 z).wf = true :=
  open_rows Tryd.underlying33 (show Tryd.prog.cellsOf 3 = 1 from by kernel_rfl) (by decide) z1_len (fun z => (Lit.int .i64 z).wf = true) 0 (by decide) (open_num (H := H) (enc := enc) (W := W)) h

set_option maxRecDepth 100000 in
theorem open_one {H : Type} {enc : TypeId × Value → H} {W : World} (fuel : Nat) (cs : List Value) (x : DataW H × List MemPlace)
    (h : DataW.trod enc Tryd.prog W 0 (fun _ => true) true fuel 38 cs = some x) : ∃ o : Int × Int × Int, cs = op3 o ∧ True := by
  obtain ⟨xs, n, _, _, hl, hxl, hg⟩ := DataW.trod_struct Tryd.underlying38 h
  rw [show Tryd.prog.cellsOf 38 = 3 from by kernel_rfl] at hl
  have hx : xs.length = 3 := hxl
  match cs, hl, xs, hx with
  | [c0, c1, c2], _, [y0, y1, y2], _ =>
    have f0 : DataW.trod enc Tryd.prog W 0 (fun _ => true) true n 3 (([c0, c1, c2].drop 0).take (Tryd.prog.cellsOf 3)) = some y0 := hg 0 _ rfl
    have f1 : DataW.trod enc Tryd.prog W 0 (fun _ => true) true n 3 (([c0, c1, c2].drop 1).take (Tryd.prog.cellsOf 3)) = some y1 := hg 1 _ rfl
    have f2 : DataW.trod enc Tryd.prog W 0 (fun _ => true) true n 3 (([c0, c1, c2].drop 2).take (Tryd.prog.cellsOf 3)) = some y2 := hg 2 _ rfl
    rw [show Tryd.prog.cellsOf 3 = 1 from by kernel_rfl] at f0 f1 f2
    obtain ⟨z0, e0, _, _⟩ := DataW.trod_int Tryd.underlying3 f0
    obtain ⟨z1, e1, _, _⟩ := DataW.trod_int Tryd.underlying3 f1
    obtain ⟨z2, e2, _, _⟩ := DataW.trod_int Tryd.underlying3 f2
    simp at e0 e1 e2
    exact ⟨(z0, z1, z2), by rw [e0, e1, e2]; rfl, trivial⟩
theorem open_ops {H : Type} {enc : TypeId × Value → H} {W : World} {ao : Option Addr} {len cap : Nat} {d : DataW H} {ps : List MemPlace}
    (h : DataW.Trod enc Tryd.prog W 0 (fun _ => true) true 22 (.slice ao len cap) d ps) : ∃ l : List (Int × Int × Int), l.length = len ∧ SeenOp W ao cap l ∧ ∀ o ∈ l, True :=
  open_rows Tryd.underlying22 (show Tryd.prog.cellsOf 38 = 3 from by kernel_rfl) (by decide) op3_len (fun _ => True) (0, 0, 0) trivial (open_one (H := H) (enc := enc) (W := W)) h

/-! ### Both side by side -/
structure TwoQ (w0 w : World) (b m : Nat) (r s : Rws) : Prop where
  q : OQ w0 w b r
  d : DQ w m m s
  bm : b < m
theorem TwoQ.kept {w0 w w' : World} {b m : Nat} {r s : Rws} (h : TwoQ w0 w b m r s) (hb : Below w.heap.size w w') : TwoQ w0 w' b m r s := ⟨h.q.kept hb, h.d.below hb, h.bm⟩
theorem TwoQ.drewN {w0 w : World} {b m : Nat} {r s : Rws} (h : TwoQ w0 w b m r s) (n : Nat) : TwoQ w0 (w.drewN n) b m r s := h.kept ⟨rfl, rfl, rfl, Nat.le_refl _, fun _ _ => rfl⟩
theorem TwoQ.code {w0 w w' : World} {b m : Nat} {r r' s : Rws} (h : TwoQ w0 w b m r s) (q : RQ w' b r') (o : Only w w' (fun k => k = b)) : TwoQ w0 w' b m r' s :=
  ⟨h.q.turn q o, h.d.only o (fun k e => by have := h.bm; omega), h.bm⟩
theorem TwoQ.doc {w0 w w' : World} {b m : Nat} {r s s' : Rws} (h : TwoQ w0 w b m r s) (d : DQ w' m m s') (o : FO m m w w') : TwoQ w0 w' b m r s' := by
  have hbm := h.bm
  have hb := h.q.hb
  have ht := h.q.ht
  have hlt := h.d.lt
  have hB := o.below (Nat.le_refl _) (by omega)
  have hN : ∀ k, k < m → ¬ (k = m ∨ (m ≤ k ∧ IsI w k)) := fun k hk e => by rcases e with e | ⟨e, -⟩ <;> omega
  exact ⟨⟨h.q.q.only o (hN b hbm), h.q.t.only o (hN _ (by omega)), h.q.bel.trans (hB.mono (by omega)), hb, ht⟩, d, hbm⟩
/-- A call's block stays. -/
theorem TwoQ.call_code {w w' : World} {b k : Nat} {cs : Array Value} (hk : w.heap[k]? = some (.cells cs 38 (0, 0))) (o : Only w w' (fun k => k = b)) (hb : k ≠ b) : w'.heap[k]? = some (.cells cs 38 (0, 0)) := (o.block k (blk_lt hk) hb).trans hk
theorem TwoQ.call_doc {w w' : World} {m k : Nat} {cs : Array Value} (hk : w.heap[k]? = some (.cells cs 38 (0, 0))) (o : FO m m w w') (hm : k ≠ m) : w'.heap[k]? = some (.cells cs 38 (0, 0)) :=
  (o.block k (blk_lt hk) (by
    rintro (e | ⟨_, cs', e⟩)
    · exact hm e
    · rw [hk] at e; cases e)).trans hk
theorem op_cells {w : World} {k : Nat} {u0 u1 u2 : Value} (h : w.heap[k]? = some (.cells #[u0, u1, u2] 38 (0, 0))) : w.cell? ⟨k, 0, none⟩ = some u0 ∧ w.cell? ⟨k, 1, none⟩ = some u1 ∧ w.cell? ⟨k, 2, none⟩ = some u2 := by
  refine ⟨?_, ?_, ?_⟩ <;> simp [World.cell?, h]

/-- The document's queues, new. -/
def zd (n : Nat) : Array Value := Array.replicate n (.slice none 0 0)
set_option maxRecDepth 100000 in
theorem Tryd.infoDoc : (Tryd.prog.info? 36).map (fun i => (i.zero, i.size)) = some (some (.agg (zd 32)), 32) := by kernel_rfl
theorem zero_d : ∃ Z : Array Value, (∀ w : World, DQ (w.alloc (.cells Z 36)) w.heap.size w.heap.size (fun _ => [])) ∧ ∀ w, (zeroValue 36).run Tryd.prog w = .ok (.agg Z) w := by
  refine ⟨zd 32, fun w => ⟨fun _ => .slice none 0 0, ⟨⟨zd 32, heap_alloc_new w _, by simp [zd], fun l hl => ?_⟩, fun l hl => ownR_nil, fun l hl e => (by cases e), fun l k _ _ _ q e => (by cases e), Nat.le_refl _, rok_zero⟩⟩, (zero_of_info Tryd.infoDoc).1⟩
  unfold zd
  rw [Array.getElem?_replicate, if_pos hl]

end Go.Proofs.YtdcadiphebcmbaaDoor
