/-
  Slices of events: what a walk is told of one that came in, and of a row of events of one's own. No condition but the form's own.
-/
import Derived.Test.YtobioiicbdhboaaDoorEvB
import Derived.Test.YtobioiicbdhboaaDoorView
import Derived.Test.YtobioiicbdhboaaDoorFoot
import Derived.Laws.OwnMore
namespace Go.Proofs.YtobioiicbdhboaaDoor
open Go.ChangeShapes Go.WideShapes Go.ChangeAt Go.RowKit
set_option linter.unusedVariables false

/-- The six cells of an event. -/
def ev6 (e : Ev) : List Value := [.int .i64 e.kind, .int .u64 (e.cyc : Int), .int .u64 (e.cnt : Int), .int .u32 (e.a : Int), .int .u32 (e.b : Int), .int .u32 (e.v : Int)]
def evRow (l : List Ev) : List Value := l.flatMap ev6
theorem evRow_len (l : List Ev) : (evRow l).length = l.length * 6 := by
  induction l with
  | nil => rfl
  | cons e l ih =>
    have : evRow (e :: l) = ev6 e ++ evRow l := rfl
    rw [this, List.length_append, ih, List.length_cons]
    show 6 + _ = _
    omega
theorem evRow_append (l m : List Ev) : evRow (l ++ m) = evRow l ++ evRow m := List.flatMap_append
theorem evRow_one (e : Ev) : evRow [e] = ev6 e := by unfold evRow; simp
theorem ev6_one (e : Ev) : ∀ u ∈ ev6 e, u.oneCell' = true := by
  intro u hu
  simp only [ev6, List.mem_cons, List.not_mem_nil, or_false] at hu
  rcases hu with rfl | rfl | rfl | rfl | rfl | rfl <;> rfl
theorem evRow_cell (l : List Ev) : ∀ u ∈ evRow l, u.oneCell' = true := by
  intro u hu
  unfold evRow at hu
  obtain ⟨e, _, h⟩ := List.mem_flatMap.1 hu
  exact ev6_one e u h
theorem evRow_at : ∀ (l : List Ev) (i : Nat) (h : i < l.length) (j : Nat), j < 6 → (evRow l)[i * 6 + j]? = (ev6 l[i])[j]?
  | e :: l, 0, h, j, hj => by
    have e1 : evRow (e :: l) = ev6 e ++ evRow l := rfl
    rw [e1, Nat.zero_mul, Nat.zero_add, List.getElem?_append_left (by exact hj)]
    rfl
  | e :: l, i + 1, h, j, hj => by
    have e1 : evRow (e :: l) = ev6 e ++ evRow l := rfl
    have e2 : (ev6 e).length = 6 := rfl
    rw [e1, List.getElem?_append_right (by omega), e2, show (i + 1) * 6 + j - 6 = i * 6 + j by omega, evRow_at l i (by simpa using h) j hj]
    rfl

/-- The six cells from a place on hold an event. -/
structure At6 (w : World) (b o : Nat) (e : Ev) : Prop where
  c0 : w.cell? ⟨b, o, none⟩ = some (.int .i64 e.kind)
  c1 : w.cell? ⟨b, o + 1, none⟩ = some (.int .u64 (e.cyc : Int))
  c2 : w.cell? ⟨b, o + 2, none⟩ = some (.int .u64 (e.cnt : Int))
  c3 : w.cell? ⟨b, o + 3, none⟩ = some (.int .u32 (e.a : Int))
  c4 : w.cell? ⟨b, o + 4, none⟩ = some (.int .u32 (e.b : Int))
  c5 : w.cell? ⟨b, o + 5, none⟩ = some (.int .u32 (e.v : Int))
theorem At6.same {w w' : World} {b o : Nat} {e : Ev} (h : At6 w b o e) (hb : w'.heap[b]? = w.heap[b]?) : At6 w' b o e :=
  ⟨(World.cell?_of_block (w := w) (a := ⟨b, _, none⟩) hb).trans h.c0, (World.cell?_of_block (w := w) (a := ⟨b, _, none⟩) hb).trans h.c1, (World.cell?_of_block (w := w) (a := ⟨b, _, none⟩) hb).trans h.c2,
   (World.cell?_of_block (w := w) (a := ⟨b, _, none⟩) hb).trans h.c3, (World.cell?_of_block (w := w) (a := ⟨b, _, none⟩) hb).trans h.c4, (World.cell?_of_block (w := w) (a := ⟨b, _, none⟩) hb).trans h.c5⟩
theorem At6.list {w : World} {b o : Nat} {e : Ev} (h : At6 w b o e) (j : Nat) (hj : j < 6) : w.cell? ⟨b, o + j, none⟩ = (ev6 e)[j]? := by
  match j, hj with
  | 0, _ => exact h.c0
  | 1, _ => exact h.c1
  | 2, _ => exact h.c2
  | 3, _ => exact h.c3
  | 4, _ => exact h.c4
  | 5, _ => exact h.c5

/-- A slice of events. -/
structure SeenE (w : World) (ao : Option Addr) (cap : Nat) (l : List Ev) : Prop where
  mx : l.length ≤ maxLen
  lc : l.length ≤ cap
  nn : ao = none → l = [] ∧ cap = 0
  row : ∀ i, i < l.length → ∃ b off, ao = some ⟨b, off, none⟩ ∧ b < w.heap.size ∧ ∀ j (hj : j < l.length), At6 w b (off + j * 6) l[j]

theorem SeenE.below {w w1 : World} {ao : Option Addr} {cap : Nat} {l : List Ev} (h : SeenE w ao cap l) (hb : Below w.heap.size w w1) : SeenE w1 ao cap l := by
  refine ⟨h.mx, h.lc, h.nn, fun i hi => ?_⟩
  obtain ⟨b, off, h1, h2, h3⟩ := h.row i hi
  exact ⟨b, off, h1, by have := hb.size; omega, fun j hj => (h3 j hj).same (hb.block b h2)⟩
theorem SeenE.belowB {w w1 : World} {ao : Option Addr} {cap B : Nat} {l : List Ev} (h : SeenE w ao cap l) (hb : Below B w w1) (hB : ∀ x, ao = some x → x.block < B) : SeenE w1 ao cap l := by
  refine ⟨h.mx, h.lc, h.nn, fun i hi => ?_⟩
  obtain ⟨b, off, h1, h2, h3⟩ := h.row i hi
  have := hB _ h1
  exact ⟨b, off, h1, by have := hb.size; omega, fun j hj => (h3 j hj).same (hb.block b this)⟩
theorem SeenE.at {w : World} {ao : Option Addr} {cap : Nat} {l : List Ev} (h : SeenE w ao cap l) (i : Nat) (hi : i < l.length) : ∃ b off, ao = some ⟨b, off, none⟩ ∧ b < w.heap.size ∧ At6 w b (off + i * 6) l[i] := by
  obtain ⟨b, off, h1, h2, h3⟩ := h.row i hi
  exact ⟨b, off, h1, h2, h3 i hi⟩

/-- A row of events of one's own. -/
def OwnE (w : World) (B : Nat) (v : Value) (l : List Ev) : Prop := w.ownsRow B 69 6 v l.length (evRow l)
theorem OwnE.seen {w : World} {B : Nat} {v : Value} {l : List Ev} (h : OwnE w B v l) : ∃ ao cap, v = .slice ao l.length cap ∧ SeenE w ao cap l ∧ ∀ x, ao = some x → B ≤ x.block := by
  have hown : w.ownsRow B 69 6 v l.length (evRow l) := h
  rcases hown.2 with ⟨rfl, hn⟩ | ⟨g, cap, cur, rfl, hb, hg, hc, hm, hs, ht⟩
  · have : l = [] := List.eq_nil_of_length_eq_zero hn
    exact ⟨none, 0, by rw [hn], ⟨by rw [hn]; simp, by omega, fun _ => ⟨this, rfl⟩, fun i hi => by omega⟩, fun x hx => by cases hx⟩
  · refine ⟨_, cap, rfl, ⟨by omega, hc, (fun h => by cases h), fun i hi => ⟨g, 0, rfl, lt_of_block hg, fun j hj => ?_⟩⟩, fun x hx => by cases hx; exact hb⟩
    have key : ∀ d, d < 6 → w.cell? ⟨g, 0 + j * 6 + d, none⟩ = (ev6 l[j])[d]? := by
      intro d hd
      rw [Nat.zero_add, hown.cellAt (j * 6 + d) (by omega), evRow_at l j hj d hd]
    exact ⟨key 0 (by omega), key 1 (by omega), key 2 (by omega), key 3 (by omega), key 4 (by omega), key 5 (by omega)⟩

/-- What kind of block it is; a row of events in a block of events. -/
def Tag (w : World) (k : Nat) (ty : TypeId) : Prop := ∃ cs o, w.heap[k]? = some (.cells cs ty o)
def EvT (w : World) (ao : Option Addr) : Prop := ∀ x, ao = some x → Tag w x.block 69
theorem evT_none (w : World) : EvT w none := fun x hx => by cases hx
theorem OwnE.tag {w : World} {B n cap : Nat} {ao : Option Addr} {l : List Ev} (h : OwnE w B (.slice ao n cap) l) : EvT w ao := by
  have hown : w.ownsRow B 69 6 (.slice ao n cap) l.length (evRow l) := h
  rcases hown.2 with ⟨e, -⟩ | ⟨g, cap', cur, e, -, hg, -⟩
  · cases e; exact evT_none w
  · cases e
    intro x hx
    cases hx
    exact ⟨cur, (0, 0), hg⟩

theorem Tryd.infoEv : (Tryd.prog.info? 69).map (fun i => (i.zero, i.size, i.bytes)) = some (some (.agg #[.int .i64 0, .int .u64 0, .int .u64 0, .int .u32 0, .int .u32 0, .int .u32 0]), 6, 40) := by kernel_rfl
theorem Tryd.infoEv3 : ∃ i, Tryd.prog.info? 69 = some i ∧ i.zero = some (.agg #[.int .i64 0, .int .u64 0, .int .u64 0, .int .u32 0, .int .u32 0, .int .u32 0]) ∧ i.size = 6 ∧ i.bytes = 40 := by
  have h := Tryd.infoEv
  cases hi : Tryd.prog.info? 69 with
  | none => rw [hi] at h; cases h
  | some i =>
    rw [hi] at h
    simp only [Option.map_some, Option.some.injEq, Prod.mk.injEq] at h
    exact ⟨i, rfl, h.1, h.2.1, h.2.2⟩

/-- What stands there, for append. -/
theorem SeenE.seg {w : World} {a : Addr} {cap : Nat} {l : List Ev} (h : SeenE w (some a) cap l) : ∀ j u, (evRow l)[j]? = some u → w.cell? (a.add j) = some u := by
  intro j u hj
  have hlt : j < l.length * 6 := by rw [← evRow_len]; exact (List.getElem?_eq_some_iff.1 hj).1
  obtain ⟨b, off, h1, h2, h3⟩ := h.row (j / 6) (by omega)
  cases h1
  have ha : (⟨b, off, none⟩ : Addr).add j = ⟨b, off + j, none⟩ := by unfold Addr.add; split <;> simp_all
  have := (h3 (j / 6) (by omega)).list (j % 6) (by omega)
  rw [ha, show off + j = off + j / 6 * 6 + j % 6 by omega, this, ← evRow_at l (j / 6) (by omega) (j % 6) (by omega), show j / 6 * 6 + j % 6 = j by omega, hj]

/-- One event, laid for append. -/
theorem seg_ev (w : World) (e : Ev) : ∀ j u, (ev6 e)[j]? = some u → (w.alloc (evO e)).cell? ((⟨w.heap.size, 0, none⟩ : Addr).add j) = some u := by
  intro j u hj
  have hlt : j < 6 := (List.getElem?_eq_some_iff.1 hj).1
  obtain ⟨c0, c1, c2, c3, c4, c5⟩ := evcells (heap_alloc_new w (evO e))
  have ha : (⟨w.heap.size, 0, none⟩ : Addr).add j = ⟨w.heap.size, j, none⟩ := by unfold Addr.add; split <;> simp_all
  rw [ha, ← hj]
  match j, hlt with
  | 0, _ => exact c0
  | 1, _ => exact c1
  | 2, _ => exact c2
  | 3, _ => exact c3
  | 4, _ => exact c4
  | 5, _ => exact c5

set_option maxRecDepth 100000 in
theorem ev_cells6 {H : Type} {enc : TypeId × Value → H} {W : World} {fuel : Nat} {cs : List Value} {x : DataW H × List MemPlace}
    (h : DataW.trod enc Tryd.prog W 0 (fun _ => true) true fuel 69 cs = some x) : ∃ e : Ev, cs = ev6 e ∧ EvFits e := by
  obtain ⟨xs, n, _, _, hl, hxl, hg⟩ := DataW.trod_struct Tryd.underlying69 h
  rw [show Tryd.prog.cellsOf 69 = 6 from by kernel_rfl] at hl
  match cs, hl with
  | [c0, c1, c2, c3, c4, c5], _ =>
    have hx : xs.length = 6 := hxl
    match xs, hx with
    | [y0, y1, y2, y3, y4, y5], _ =>
      have f0 : DataW.trod enc Tryd.prog W 0 (fun _ => true) true n 3 (([c0, c1, c2, c3, c4, c5].drop 0).take (Tryd.prog.cellsOf 3)) = some y0 := hg 0 _ rfl
      have f1 : DataW.trod enc Tryd.prog W 0 (fun _ => true) true n 32 (([c0, c1, c2, c3, c4, c5].drop 1).take (Tryd.prog.cellsOf 32)) = some y1 := hg 1 _ rfl
      have f2 : DataW.trod enc Tryd.prog W 0 (fun _ => true) true n 32 (([c0, c1, c2, c3, c4, c5].drop 2).take (Tryd.prog.cellsOf 32)) = some y2 := hg 2 _ rfl
      have f3 : DataW.trod enc Tryd.prog W 0 (fun _ => true) true n 41 (([c0, c1, c2, c3, c4, c5].drop 3).take (Tryd.prog.cellsOf 41)) = some y3 := hg 3 _ rfl
      have f4 : DataW.trod enc Tryd.prog W 0 (fun _ => true) true n 41 (([c0, c1, c2, c3, c4, c5].drop 4).take (Tryd.prog.cellsOf 41)) = some y4 := hg 4 _ rfl
      have f5 : DataW.trod enc Tryd.prog W 0 (fun _ => true) true n 41 (([c0, c1, c2, c3, c4, c5].drop 5).take (Tryd.prog.cellsOf 41)) = some y5 := hg 5 _ rfl
      rw [show Tryd.prog.cellsOf 3 = 1 from by kernel_rfl] at f0
      rw [show Tryd.prog.cellsOf 32 = 1 from by kernel_rfl] at f1 f2
      rw [show Tryd.prog.cellsOf 41 = 1 from by kernel_rfl] at f3 f4 f5
      obtain ⟨k, e0, _, g0⟩ := DataW.trod_int Tryd.underlying3 f0
      obtain ⟨z1, e1, _, g1⟩ := DataW.trod_int Tryd.underlying32 f1
      obtain ⟨z2, e2, _, g2⟩ := DataW.trod_int Tryd.underlying32 f2
      obtain ⟨z3, e3, _, g3⟩ := DataW.trod_int Tryd.underlying41 f3
      obtain ⟨z4, e4, _, g4⟩ := DataW.trod_int Tryd.underlying41 f4
      obtain ⟨z5, e5, _, g5⟩ := DataW.trod_int Tryd.underlying41 f5
      simp at e0 e1 e2 e3 e4 e5
      obtain ⟨k1, k2⟩ := wf_i64 g0
      obtain ⟨m1, rfl, h1⟩ := wf_u64 g1
      obtain ⟨m2, rfl, h2⟩ := wf_u64 g2
      obtain ⟨m3, rfl, h3⟩ := wf_u32 g3
      obtain ⟨m4, rfl, h4⟩ := wf_u32 g4
      obtain ⟨m5, rfl, h5⟩ := wf_u32 g5
      exact ⟨⟨k, m1, m2, m3, m4, m5⟩, by rw [e0, e1, e2, e3, e4, e5]; rfl, ⟨k1, k2, h1, h2, h3, h4, h5⟩⟩

theorem ev0_fits : EvFits ev0 := ⟨by decide, by decide, by decide, by decide, by decide, by decide, by decide⟩

set_option maxRecDepth 100000 in
theorem open_evs {H : Type} {enc : TypeId × Value → H} {W : World} {ao : Option Addr} {len cap : Nat} {d : DataW H} {ps : List MemPlace}
    (h : DataW.Trod enc Tryd.prog W 0 (fun _ => true) true 42 (.slice ao len cap) d ps) :
    ∃ l : List Ev, l.length = len ∧ SeenE W ao cap l ∧ ∀ e ∈ l, EvFits e := by
  obtain ⟨fuel, hf⟩ := h
  rcases Deep.open_slice Tryd.underlying42 hf with ⟨hcs, _⟩ | ⟨x, ll, c, m, n, D, Pl, hcs, _, hl, hm, hmm, hx, hi⟩
  · simp [Value.cells] at hcs
    obtain ⟨rfl, rfl, rfl⟩ := hcs
    exact ⟨[], rfl, ⟨by simp, by simp, fun _ => ⟨rfl, rfl⟩, fun i hi => by simp at hi⟩, by simp⟩
  · simp [Value.cells] at hcs
    obtain ⟨rfl, rfl, rfl⟩ := hcs
    simp only [if_true] at hmm
    subst hmm
    rw [show Tryd.prog.cellsOf 69 = 6 from by kernel_rfl] at hi
    have key : ∀ i, ∃ e : Ev, EvFits e ∧ (i < m → ∀ j, j < 6 → W.cell? ((x.add (i * 6)).add j) = (ev6 e)[j]?) := by
      intro i
      by_cases him : i < m
      · obtain ⟨cs', hc, ht⟩ := hi i him
        obtain ⟨e, rfl, hy⟩ := ev_cells6 ht
        obtain ⟨_, _, hat⟩ := World.cells?_some hc
        exact ⟨e, hy, fun _ j hj => hat j hj⟩
      · exact ⟨ev0, ev0_fits, fun h => absurd h him⟩
    obtain ⟨f, hf⟩ := Classical.axiomOfChoice key
    have hlen : ((List.range len).map f).length = len := by simp
    refine ⟨(List.range len).map f, hlen, ⟨by omega, by omega, (fun h => by cases h), fun i hil => ?_⟩, fun e he => ?_⟩
    · have h0 := (hf 0).2 (by omega) 0 (by omega)
      have h0' : W.cell? ((x.add (0 * 6)).add 0) = some (.int .i64 (f 0).kind) := h0
      obtain ⟨b, o, sp⟩ := x
      cases sp with
      | some z =>
        simp only [Addr.add, World.cell?] at h0'
        split at h0' <;> simp at h0'
      | none =>
        have ha : ∀ o j, (⟨b, o, none⟩ : Addr).add j = ⟨b, o + j, none⟩ := fun o j => by unfold Addr.add; split <;> simp_all
        simp only [ha] at hf h0'
        refine ⟨b, o, rfl, World.block_lt_of_cell? W _ h0', fun j hj => ?_⟩
        have hj' : j < len := by omega
        have hg := (hf j).2 (by omega)
        rw [show ((List.range len).map f)[j] = f j by simp]
        exact ⟨hg 0 (by omega), hg 1 (by omega), hg 2 (by omega), hg 3 (by omega), hg 4 (by omega), hg 5 (by omega)⟩
    · obtain ⟨i, _, rfl⟩ := List.mem_map.1 he
      exact (hf i).1

end Go.Proofs.YtobioiicbdhboaaDoor
