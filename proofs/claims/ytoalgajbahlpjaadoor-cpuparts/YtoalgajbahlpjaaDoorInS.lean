/-
  Slices of instructions: what a walk is told of one that came in, and of a row of instructions of one's own; the document's Same where both are the same; a copy by append. No condition but the form's own.
-/
import Derived.Test.YtoalgajbahlpjaaDoorIsL
import Derived.Test.YtoalgajbahlpjaaDoorFoot
import Derived.Laws.OwnMore
import Derived.Laws.StructEq
import Derived.Laws.AppendOwnNone
import Derived.Deep.Slices
import Derived.OpenShut
import Derived.HandedShaped
import Derived.Deep.Grids
namespace Go.Proofs.YtoalgajbahlpjaaDoor
open Go.ChangeShapes Go.WideShapes Go.ChangeAt Go.RowKit
set_option linter.unusedVariables false
set_option linter.unusedSimpArgs false

/-- The six cells of an instruction. -/
def in6 (e : Ins) : List Value := [.int .i64 e.op, .int .i64 e.a, .int .i64 e.b, .int .i64 e.c, .int .i64 e.d, .int .u32 (e.k : Int)]
def inRow (l : List Ins) : List Value := l.flatMap in6
theorem inRow_len (l : List Ins) : (inRow l).length = l.length * 6 := by
  induction l with
  | nil => rfl
  | cons e l ih =>
    have : inRow (e :: l) = in6 e ++ inRow l := rfl
    rw [this, List.length_append, ih, List.length_cons]
    show 6 + _ = _
    omega
theorem inRow_append (l m : List Ins) : inRow (l ++ m) = inRow l ++ inRow m := List.flatMap_append
theorem inRow_one (e : Ins) : inRow [e] = in6 e := by unfold inRow; simp
theorem in6_one (e : Ins) : ∀ u ∈ in6 e, u.oneCell' = true := by
  intro u hu
  simp only [in6, List.mem_cons, List.not_mem_nil, or_false] at hu
  rcases hu with rfl | rfl | rfl | rfl | rfl | rfl <;> rfl
theorem inRow_cell (l : List Ins) : ∀ u ∈ inRow l, u.oneCell' = true := by
  intro u hu
  unfold inRow at hu
  obtain ⟨e, _, h⟩ := List.mem_flatMap.1 hu
  exact in6_one e u h
theorem inRow_at : ∀ (l : List Ins) (i : Nat) (h : i < l.length) (j : Nat), j < 6 → (inRow l)[i * 6 + j]? = (in6 l[i])[j]?
  | e :: l, 0, h, j, hj => by
    have e1 : inRow (e :: l) = in6 e ++ inRow l := rfl
    rw [e1, Nat.zero_mul, Nat.zero_add, List.getElem?_append_left (by exact hj)]
    rfl
  | e :: l, i + 1, h, j, hj => by
    have e1 : inRow (e :: l) = in6 e ++ inRow l := rfl
    have e2 : (in6 e).length = 6 := rfl
    rw [e1, List.getElem?_append_right (by omega), e2, show (i + 1) * 6 + j - 6 = i * 6 + j by omega, inRow_at l i (by simpa using h) j hj]
    rfl

/-- The six cells from a place on hold an instruction. -/
structure AtI (w : World) (b o : Nat) (e : Ins) : Prop where
  c0 : w.cell? ⟨b, o, none⟩ = some (.int .i64 e.op)
  c1 : w.cell? ⟨b, o + 1, none⟩ = some (.int .i64 e.a)
  c2 : w.cell? ⟨b, o + 2, none⟩ = some (.int .i64 e.b)
  c3 : w.cell? ⟨b, o + 3, none⟩ = some (.int .i64 e.c)
  c4 : w.cell? ⟨b, o + 4, none⟩ = some (.int .i64 e.d)
  c5 : w.cell? ⟨b, o + 5, none⟩ = some (.int .u32 (e.k : Int))
theorem AtI.same {w w' : World} {b o : Nat} {e : Ins} (h : AtI w b o e) (hb : w'.heap[b]? = w.heap[b]?) : AtI w' b o e :=
  ⟨(World.cell?_of_block (w := w) (a := ⟨b, _, none⟩) hb).trans h.c0, (World.cell?_of_block (w := w) (a := ⟨b, _, none⟩) hb).trans h.c1, (World.cell?_of_block (w := w) (a := ⟨b, _, none⟩) hb).trans h.c2,
   (World.cell?_of_block (w := w) (a := ⟨b, _, none⟩) hb).trans h.c3, (World.cell?_of_block (w := w) (a := ⟨b, _, none⟩) hb).trans h.c4, (World.cell?_of_block (w := w) (a := ⟨b, _, none⟩) hb).trans h.c5⟩
theorem AtI.list {w : World} {b o : Nat} {e : Ins} (h : AtI w b o e) (j : Nat) (hj : j < 6) : w.cell? ⟨b, o + j, none⟩ = (in6 e)[j]? := by
  match j, hj with
  | 0, _ => exact h.c0
  | 1, _ => exact h.c1
  | 2, _ => exact h.c2
  | 3, _ => exact h.c3
  | 4, _ => exact h.c4
  | 5, _ => exact h.c5

/-- A slice of instructions. -/
structure SeenI (w : World) (ao : Option Addr) (cap : Nat) (l : List Ins) : Prop where
  mx : l.length ≤ maxLen
  lc : l.length ≤ cap
  nn : ao = none → l = [] ∧ cap = 0
  row : ∀ i, i < l.length → ∃ b off, ao = some ⟨b, off, none⟩ ∧ b < w.heap.size ∧ ∀ j (hj : j < l.length), AtI w b (off + j * 6) l[j]

theorem SeenI.below {w w1 : World} {ao : Option Addr} {cap : Nat} {l : List Ins} (h : SeenI w ao cap l) (hb : Below w.heap.size w w1) : SeenI w1 ao cap l := by
  refine ⟨h.mx, h.lc, h.nn, fun i hi => ?_⟩
  obtain ⟨b, off, h1, h2, h3⟩ := h.row i hi
  exact ⟨b, off, h1, by have := hb.size; omega, fun j hj => (h3 j hj).same (hb.block b h2)⟩
theorem SeenI.belowB {w w1 : World} {ao : Option Addr} {cap B : Nat} {l : List Ins} (h : SeenI w ao cap l) (hb : Below B w w1) (hB : ∀ x, ao = some x → x.block < B) : SeenI w1 ao cap l := by
  refine ⟨h.mx, h.lc, h.nn, fun i hi => ?_⟩
  obtain ⟨b, off, h1, h2, h3⟩ := h.row i hi
  have := hB _ h1
  exact ⟨b, off, h1, by have := hb.size; omega, fun j hj => (h3 j hj).same (hb.block b this)⟩
theorem SeenI.at {w : World} {ao : Option Addr} {cap : Nat} {l : List Ins} (h : SeenI w ao cap l) (i : Nat) (hi : i < l.length) : ∃ b off, ao = some ⟨b, off, none⟩ ∧ b < w.heap.size ∧ AtI w b (off + i * 6) l[i] := by
  obtain ⟨b, off, h1, h2, h3⟩ := h.row i hi
  exact ⟨b, off, h1, h2, h3 i hi⟩

/-- A row of instructions of one's own. -/
def OwnN (w : World) (B : Nat) (v : Value) (l : List Ins) : Prop := w.ownsRow B 28 6 v l.length (inRow l)
theorem OwnN.seen {w : World} {B : Nat} {v : Value} {l : List Ins} (h : OwnN w B v l) : ∃ ao cap, v = .slice ao l.length cap ∧ SeenI w ao cap l ∧ ∀ x, ao = some x → B ≤ x.block := by
  have hown : w.ownsRow B 28 6 v l.length (inRow l) := h
  rcases hown.2 with ⟨rfl, hn⟩ | ⟨g, cap, cur, rfl, hb, hg, hc, hm, hs, ht⟩
  · have : l = [] := List.eq_nil_of_length_eq_zero hn
    exact ⟨none, 0, by rw [hn], ⟨by rw [hn]; simp, by omega, fun _ => ⟨this, rfl⟩, fun i hi => by omega⟩, fun x hx => by cases hx⟩
  · refine ⟨_, cap, rfl, ⟨by omega, hc, (fun h => by cases h), fun i hi => ⟨g, 0, rfl, lt_of_block hg, fun j hj => ?_⟩⟩, fun x hx => by cases hx; exact hb⟩
    have key : ∀ d, d < 6 → w.cell? ⟨g, 0 + j * 6 + d, none⟩ = (in6 l[j])[d]? := by
      intro d hd
      rw [Nat.zero_add, hown.cellAt (j * 6 + d) (by omega), inRow_at l j hj d hd]
    exact ⟨key 0 (by omega), key 1 (by omega), key 2 (by omega), key 3 (by omega), key 4 (by omega), key 5 (by omega)⟩

/-- What kind of block it is; a row of instructions in a block of instructions. -/
def Tag (w : World) (k : Nat) (ty : TypeId) : Prop := ∃ cs o, w.heap[k]? = some (.cells cs ty o)
def InT (w : World) (ao : Option Addr) : Prop := ∀ x, ao = some x → Tag w x.block 28
theorem inT_none (w : World) : InT w none := fun x hx => by cases hx
theorem OwnN.tag {w : World} {B n cap : Nat} {ao : Option Addr} {l : List Ins} (h : OwnN w B (.slice ao n cap) l) : InT w ao := by
  have hown : w.ownsRow B 28 6 (.slice ao n cap) l.length (inRow l) := h
  rcases hown.2 with ⟨e, -⟩ | ⟨g, cap', cur, e, -, hg, -⟩
  · cases e; exact inT_none w
  · cases e
    intro x hx
    cases hx
    exact ⟨cur, (0, 0), hg⟩

theorem Tryd.infoIns : (Tryd.prog.info? 28).map (fun i => (i.zero, i.size, i.bytes)) = some (some (.agg #[.int .i64 0, .int .i64 0, .int .i64 0, .int .i64 0, .int .i64 0, .int .u32 0]), 6, 48) := by kernel_rfl
theorem Tryd.infoIns3 : ∃ i, Tryd.prog.info? 28 = some i ∧ i.zero = some (.agg #[.int .i64 0, .int .i64 0, .int .i64 0, .int .i64 0, .int .i64 0, .int .u32 0]) ∧ i.size = 6 ∧ i.bytes = 48 := by
  have h := Tryd.infoIns
  cases hi : Tryd.prog.info? 28 with
  | none => rw [hi] at h; cases h
  | some i =>
    rw [hi] at h
    simp only [Option.map_some, Option.some.injEq, Prod.mk.injEq] at h
    exact ⟨i, rfl, h.1, h.2.1, h.2.2⟩

/-- What stands there, for append. -/
theorem SeenI.seg {w : World} {a : Addr} {cap : Nat} {l : List Ins} (h : SeenI w (some a) cap l) : ∀ j u, (inRow l)[j]? = some u → w.cell? (a.add j) = some u := by
  intro j u hj
  have hlt : j < l.length * 6 := by rw [← inRow_len]; exact (List.getElem?_eq_some_iff.1 hj).1
  obtain ⟨b, off, h1, h2, h3⟩ := h.row (j / 6) (by omega)
  cases h1
  have ha : (⟨b, off, none⟩ : Addr).add j = ⟨b, off + j, none⟩ := by unfold Addr.add; split <;> simp_all
  have := (h3 (j / 6) (by omega)).list (j % 6) (by omega)
  rw [ha, show off + j = off + j / 6 * 6 + j % 6 by omega, this, ← inRow_at l (j / 6) (by omega) (j % 6) (by omega), show j / 6 * 6 + j % 6 = j by omega, hj]

/-- One instruction, laid for append. -/
theorem seg_ins (w : World) (e : Ins) : ∀ j u, (in6 e)[j]? = some u → (w.alloc (insO e)).cell? ((⟨w.heap.size, 0, none⟩ : Addr).add j) = some u := by
  intro j u hj
  have hlt : j < 6 := (List.getElem?_eq_some_iff.1 hj).1
  obtain ⟨c0, c1, c2, c3, c4, c5⟩ := inscells (heap_alloc_new w (insO e))
  have ha : (⟨w.heap.size, 0, none⟩ : Addr).add j = ⟨w.heap.size, j, none⟩ := by unfold Addr.add; split <;> simp_all
  rw [ha, ← hj]
  match j, hlt with
  | 0, _ => exact c0
  | 1, _ => exact c1
  | 2, _ => exact c2
  | 3, _ => exact c3
  | 4, _ => exact c4
  | 5, _ => exact c5

set_option maxRecDepth 100000 in
theorem in_cells6 {H : Type} {enc : TypeId × Value → H} {W : World} {fuel : Nat} {cs : List Value} {x : DataW H × List MemPlace}
    (h : DataW.trod enc Tryd.prog W 0 (fun _ => true) true fuel 28 cs = some x) : ∃ e : Ins, cs = in6 e ∧ InsFits e := by
  obtain ⟨xs, n, _, _, hl, hxl, hg⟩ := DataW.trod_struct Tryd.underlying28 h
  rw [show Tryd.prog.cellsOf 28 = 6 from by kernel_rfl] at hl
  match cs, hl with
  | [c0, c1, c2, c3, c4, c5], _ =>
    have hx : xs.length = 6 := hxl
    match xs, hx with
    | [y0, y1, y2, y3, y4, y5], _ =>
      have f0 : DataW.trod enc Tryd.prog W 0 (fun _ => true) true n 3 (([c0, c1, c2, c3, c4, c5].drop 0).take (Tryd.prog.cellsOf 3)) = some y0 := hg 0 _ rfl
      have f1 : DataW.trod enc Tryd.prog W 0 (fun _ => true) true n 3 (([c0, c1, c2, c3, c4, c5].drop 1).take (Tryd.prog.cellsOf 3)) = some y1 := hg 1 _ rfl
      have f2 : DataW.trod enc Tryd.prog W 0 (fun _ => true) true n 3 (([c0, c1, c2, c3, c4, c5].drop 2).take (Tryd.prog.cellsOf 3)) = some y2 := hg 2 _ rfl
      have f3 : DataW.trod enc Tryd.prog W 0 (fun _ => true) true n 3 (([c0, c1, c2, c3, c4, c5].drop 3).take (Tryd.prog.cellsOf 3)) = some y3 := hg 3 _ rfl
      have f4 : DataW.trod enc Tryd.prog W 0 (fun _ => true) true n 3 (([c0, c1, c2, c3, c4, c5].drop 4).take (Tryd.prog.cellsOf 3)) = some y4 := hg 4 _ rfl
      have f5 : DataW.trod enc Tryd.prog W 0 (fun _ => true) true n 22 (([c0, c1, c2, c3, c4, c5].drop 5).take (Tryd.prog.cellsOf 22)) = some y5 := hg 5 _ rfl
      rw [show Tryd.prog.cellsOf 3 = 1 from by kernel_rfl] at f0 f1 f2 f3 f4
      rw [show Tryd.prog.cellsOf 22 = 1 from by kernel_rfl] at f5
      obtain ⟨z0, e0, _, g0⟩ := DataW.trod_int Tryd.underlying3 f0
      obtain ⟨z1, e1, _, g1⟩ := DataW.trod_int Tryd.underlying3 f1
      obtain ⟨z2, e2, _, g2⟩ := DataW.trod_int Tryd.underlying3 f2
      obtain ⟨z3, e3, _, g3⟩ := DataW.trod_int Tryd.underlying3 f3
      obtain ⟨z4, e4, _, g4⟩ := DataW.trod_int Tryd.underlying3 f4
      obtain ⟨z5, e5, _, g5⟩ := DataW.trod_int Tryd.underlying22 f5
      simp at e0 e1 e2 e3 e4 e5
      obtain ⟨p0, q0⟩ := wf_i64 g0
      obtain ⟨p1, q1⟩ := wf_i64 g1
      obtain ⟨p2, q2⟩ := wf_i64 g2
      obtain ⟨p3, q3⟩ := wf_i64 g3
      obtain ⟨p4, q4⟩ := wf_i64 g4
      obtain ⟨m5, rfl, h5⟩ := wf_u32 g5
      exact ⟨⟨z0, z1, z2, z3, z4, m5⟩, by rw [e0, e1, e2, e3, e4, e5]; rfl, ⟨p0, q0, p1, q1, p2, q2, p3, q3, p4, q4, h5⟩⟩

theorem ins0_fits : InsFits ins0 := ⟨by decide, by decide, by decide, by decide, by decide, by decide, by decide, by decide, by decide, by decide, by decide⟩

set_option maxRecDepth 100000 in
theorem open_inss {H : Type} {enc : TypeId × Value → H} {W : World} {ao : Option Addr} {len cap : Nat} {d : DataW H} {ps : List MemPlace}
    (h : DataW.Trod enc Tryd.prog W 0 (fun _ => true) true 39 (.slice ao len cap) d ps) :
    ∃ l : List Ins, l.length = len ∧ SeenI W ao cap l ∧ ∀ e ∈ l, InsFits e := by
  obtain ⟨fuel, hf⟩ := h
  rcases Deep.open_slice Tryd.underlying39 hf with ⟨hcs, _⟩ | ⟨x, ll, c, m, n, D, Pl, hcs, _, hl, hm, hmm, hx, hi⟩
  · simp [Value.cells] at hcs
    obtain ⟨rfl, rfl, rfl⟩ := hcs
    exact ⟨[], rfl, ⟨by simp, by simp, fun _ => ⟨rfl, rfl⟩, fun i hi => by simp at hi⟩, by simp⟩
  · simp [Value.cells] at hcs
    obtain ⟨rfl, rfl, rfl⟩ := hcs
    simp only [if_true] at hmm
    subst hmm
    rw [show Tryd.prog.cellsOf 28 = 6 from by kernel_rfl] at hi
    have key : ∀ i, ∃ e : Ins, InsFits e ∧ (i < m → ∀ j, j < 6 → W.cell? ((x.add (i * 6)).add j) = (in6 e)[j]?) := by
      intro i
      by_cases him : i < m
      · obtain ⟨cs', hc, ht⟩ := hi i him
        obtain ⟨e, rfl, hy⟩ := in_cells6 ht
        obtain ⟨_, _, hat⟩ := World.cells?_some hc
        exact ⟨e, hy, fun _ j hj => hat j hj⟩
      · exact ⟨ins0, ins0_fits, fun h => absurd h him⟩
    obtain ⟨f, hf⟩ := Classical.axiomOfChoice key
    have hlen : ((List.range len).map f).length = len := by simp
    refine ⟨(List.range len).map f, hlen, ⟨by omega, by omega, (fun h => by cases h), fun i hil => ?_⟩, fun e he => ?_⟩
    · have h0 := (hf 0).2 (by omega) 0 (by omega)
      have h0' : W.cell? ((x.add (0 * 6)).add 0) = some (.int .i64 (f 0).op) := h0
      obtain ⟨b, o, sp⟩ := x
      cases sp with
      | some z =>
        simp only [Addr.add, World.cell?] at h0'
        split at h0' <;> simp at h0'
      | none =>
        have ha : ∀ o j, (⟨b, o, none⟩ : Addr).add j = ⟨b, o + j, none⟩ := fun o j => by unfold Addr.add; split <;> simp_all
        simp only [ha] at hf h0'
        refine ⟨b, o, rfl, World.block_lt_of_cell? W _ h0', fun j hj => ?_⟩
        have hj' : j < len := by omega
        have hg := (hf j).2 (by omega)
        rw [show ((List.range len).map f)[j] = f j by simp]
        exact ⟨hg 0 (by omega), hg 1 (by omega), hg 2 (by omega), hg 3 (by omega), hg 4 (by omega), hg 5 (by omega)⟩
    · obtain ⟨i, _, rfl⟩ := List.mem_map.1 he
      exact (hf i).1

theorem AtI.drewN {w : World} {b o : Nat} {e : Ins} (h : AtI w b o e) (n : Nat) : AtI (w.drewN n) b o e := ⟨h.c0, h.c1, h.c2, h.c3, h.c4, h.c5⟩
theorem SeenI.drewN {w : World} {ao : Option Addr} {cap : Nat} {l : List Ins} (h : SeenI w ao cap l) (n : Nat) : SeenI (w.drewN n) ao cap l := ⟨h.mx, h.lc, h.nn, fun i hi => by
  obtain ⟨b, off, h1, h2, h3⟩ := h.row i hi
  exact ⟨b, off, h1, h2, fun j hj => (h3 j hj).drewN n⟩⟩
theorem drewN_drewN (w : World) (a b : Nat) : (w.drewN a).drewN b = w.drewN (a + b) := by simp

/-- append([]api.Instr{}, l...): a row of one's own with the same instructions. -/
theorem wpList_copyI {w : World} {ops : Array Oper} {rest : List Oper} {o : Oper} {a : Act} {Q : Exit → Act → World → Prop} (hgd : o.guard = none) (s x : Operand)
    (ho : o.op = .call { callee := .builtin .append, args := #[s, x], argTypes := #[39, 39] }) (base : Nat) (v : Value) (hs : a.eval s = v)
    (hown : w.ownsRow base 28 6 v 0 []) (ao : Option Addr) (cap : Nat) (l : List Ins) (hx : a.eval x = .slice ao l.length cap) (hl : SeenI w ao cap l) (hn : l.length ≤ 1000000) (hbase : base ≤ w.heap.size)
    (h : ∀ v' w', OwnN w' base v' l → w.grownBy w' v.ownBlock → wpList Tryd.prog ops Q rest (a.put o.dst v') w') : wpList Tryd.prog ops Q (o :: rest) a w := by
  obtain ⟨i0, hi, hz0, hz1, hz2⟩ := Tryd.infoIns3
  cases ao with
  | none =>
    obtain ⟨rfl, rfl⟩ := hl.nn rfl
    exact wpList_append_own_none hgd s x _ ho base _ i0 6 Tryd.underlying39 hi v 0 [] hs hown hx (h v w hown ⟨rfl, rfl, rfl, Nat.le_refl _, fun _ _ _ => rfl⟩)
  | some ad =>
    refine wpList_append_own _ hgd s x _ ho base _ i0 _ 6 48 Tryd.underlying39 hi hz0 hz1 hz2 rfl (by decide) v 0 [] hs hown ad l.length cap (inRow l) hx (inRow_len l) hl.seg (inRow_cell l) (by unfold maxLen; omega) (by omega) hbase ?_
    intro v' w' h1 h2 _
    refine h v' w' ?_ h2
    rw [Nat.zero_add, List.nil_append] at h1
    exact h1

end Go.Proofs.YtoalgajbahlpjaaDoor
