/-
  Rows of frames and texts, the statements' rising, the document's Told, and a hunter that is fed once (HuE0 to HuE3 in one text). Over this seat's translation.
-/
import Derived.Test.YtobioiicbdhboaaDoorHuC
import Derived.Deep.RegionLaw
namespace Go.Proofs.YtobioiicbdhboaaDoor
open Go.ChangeShapes Go.WideShapes Go.ChangeAt Go.RowKit
set_option linter.unusedVariables false
set_option linter.unusedSimpArgs false

/-! ### Frames in rows -/

/-- A frame in memory: its number and events, and where they lie. -/
structure Fm where
  f : Fr
  ao : Option Addr
  cap : Nat
def fm2 (m : Fm) : List Value := [.int .u32 (m.f.q : Int), .slice m.ao m.f.evs.length m.cap]
def fmRow (l : List Fm) : List Value := l.flatMap fm2
theorem fmRow_cons (m : Fm) (l : List Fm) : fmRow (m :: l) = fm2 m ++ fmRow l := rfl
theorem fmRow_append (l k : List Fm) : fmRow (l ++ k) = fmRow l ++ fmRow k := List.flatMap_append
theorem fmRow_one (m : Fm) : fmRow [m] = fm2 m := by unfold fmRow; simp
theorem fmRow_len (l : List Fm) : (fmRow l).length = l.length * 2 := by
  induction l with
  | nil => rfl
  | cons m l ih =>
    rw [fmRow_cons, List.length_append, ih, List.length_cons]
    show 2 + _ = _
    omega
theorem fmRow_cell (l : List Fm) : ∀ u ∈ fmRow l, u.oneCell' = true := by
  intro u hu
  unfold fmRow at hu
  obtain ⟨m, _, h⟩ := List.mem_flatMap.1 hu
  simp only [fm2, List.mem_cons, List.not_mem_nil, or_false] at h
  rcases h with rfl | rfl <;> rfl
theorem fmRow_at : ∀ (l : List Fm) (i : Nat) (h : i < l.length) (j : Nat), j < 2 → (fmRow l)[i * 2 + j]? = (fm2 l[i])[j]?
  | m :: l, 0, h, j, hj => by
    rw [fmRow_cons, Nat.zero_mul, Nat.zero_add, List.getElem?_append_left (by exact hj)]
    rfl
  | m :: l, i + 1, h, j, hj => by
    have e2 : (fm2 m).length = 2 := rfl
    rw [fmRow_cons, List.getElem?_append_right (by omega), e2, show (i + 1) * 2 + j - 2 = i * 2 + j by omega, fmRow_at l i (by simpa using h) j hj]
    rfl
/-- A frame whose events lie below B, and fit. -/
structure FmOk (B : Nat) (w : World) (m : Fm) : Prop where
  sn : SeenE w m.ao m.cap m.f.evs
  pl : ∀ x, m.ao = some x → x.block < B
  fits : ∀ e ∈ m.f.evs, EvFits e
  q : m.f.q < 4294967296
theorem FmOk.below {B : Nat} {w w' : World} {m : Fm} (h : FmOk B w m) (hb : Below B w w') : FmOk B w' m :=
  ⟨h.sn.belowB hb h.pl, h.pl, h.fits, h.q⟩
/-- Frames that came in. -/
structure SeenF (w : World) (ao : Option Addr) (cap : Nat) (l : List Fm) : Prop where
  row : ∀ i (hi : i < l.length), ∃ b off, ao = some ⟨b, off, none⟩ ∧ b < w.heap.size ∧ w.cell? ⟨b, off + i * 2, none⟩ = some (.int .u32 (l[i].f.q : Int)) ∧ w.cell? ⟨b, off + i * 2 + 1, none⟩ = some (.slice l[i].ao l[i].f.evs.length l[i].cap)
  ok : ∀ m ∈ l, FmOk w.heap.size w m

theorem seen_lt {w : World} {ao : Option Addr} {cap : Nat} {l : List Ev} (h : SeenE w ao cap l) (hl : 0 < l.length) : ∀ x, ao = some x → x.block < w.heap.size := by
  intro x hx
  obtain ⟨b, off, h1, h2, -⟩ := h.row 0 hl
  rw [hx] at h1
  cases h1
  exact h2

set_option maxRecDepth 100000 in
theorem open_frames {H : Type} {enc : TypeId × Value → H} {W : World} {ao : Option Addr} {len cap : Nat} {d : DataW H} {ps : List MemPlace}
    (h : DataW.Trod enc Tryd.prog W 0 (fun _ => true) true 49 (.slice ao len cap) d ps) :
    ∃ l : List Fm, l.length = len ∧ (∀ i (hi : i < l.length), ∃ b off, ao = some ⟨b, off, none⟩ ∧ b < W.heap.size ∧ W.cell? ⟨b, off + i * 2, none⟩ = some (.int .u32 (l[i].f.q : Int)) ∧ W.cell? ⟨b, off + i * 2 + 1, none⟩ = some (.slice l[i].ao l[i].f.evs.length l[i].cap)) ∧
      ∀ m ∈ l, SeenE W m.ao m.cap m.f.evs ∧ (∀ e ∈ m.f.evs, EvFits e) ∧ m.f.q < 4294967296 := by
  obtain ⟨fuel, hf⟩ := h
  rcases Deep.open_slice Tryd.underlying49 hf with ⟨hcs, _⟩ | ⟨x, ll, c, m, n, D, Pl, hcs, _, hl, hm, hmm, hx, hi⟩
  · simp [Value.cells] at hcs
    obtain ⟨rfl, rfl, rfl⟩ := hcs
    exact ⟨[], rfl, fun i hi => by simp at hi, by simp⟩
  · simp [Value.cells] at hcs
    obtain ⟨rfl, rfl, rfl⟩ := hcs
    simp only [if_true] at hmm
    subst hmm
    rw [show Tryd.prog.cellsOf 48 = 2 from by kernel_rfl] at hi
    have key : ∀ i, ∃ e : Fm, (i < m → (SeenE W e.ao e.cap e.f.evs ∧ (∀ y ∈ e.f.evs, EvFits y) ∧ e.f.q < 4294967296) ∧ ∀ j, j < 2 → W.cell? ((x.add (i * 2)).add j) = (fm2 e)[j]?) := by
      intro i
      by_cases him : i < m
      · obtain ⟨cs', hc, ht⟩ := hi i him
        obtain ⟨q, ao', cap', l', rfl, hq, hs, hfit⟩ := fr_cells2 ht
        obtain ⟨_, _, hat⟩ := World.cells?_some hc
        exact ⟨⟨⟨q, l'⟩, ao', cap'⟩, fun _ => ⟨⟨hs, hfit, hq⟩, fun j hj => hat j hj⟩⟩
      · exact ⟨⟨⟨0, []⟩, none, 0⟩, fun h => absurd h him⟩
    obtain ⟨f, hf⟩ := Classical.axiomOfChoice key
    have hlen : ((List.range len).map f).length = len := by simp
    refine ⟨(List.range len).map f, hlen, fun i hil => ?_, fun e he => ?_⟩
    · have hil' : i < len := by omega
      have h0 := (hf i (by omega)).2 0 (by omega)
      have h1 := (hf i (by omega)).2 1 (by omega)
      have h0' : W.cell? ((x.add (i * 2)).add 0) = some (.int .u32 ((f i).f.q : Int)) := h0
      have h1' : W.cell? ((x.add (i * 2)).add 1) = some (.slice (f i).ao (f i).f.evs.length (f i).cap) := h1
      have hz := (hf 0 (by omega)).2 0 (by omega)
      have hz' : W.cell? ((x.add (0 * 2)).add 0) = some (.int .u32 ((f 0).f.q : Int)) := hz
      obtain ⟨b, o, sp⟩ := x
      cases sp with
      | some z =>
        simp only [Addr.add, World.cell?] at hz'
        split at hz' <;> simp at hz'
      | none =>
        have ha : ∀ o j, (⟨b, o, none⟩ : Addr).add j = ⟨b, o + j, none⟩ := fun o j => by unfold Addr.add; split <;> simp_all
        simp only [ha, Nat.add_zero] at h0' h1'
        rw [show ((List.range len).map f)[i] = f i by simp]
        exact ⟨b, o, rfl, World.block_lt_of_cell? W _ h0', h0', h1'⟩
    · obtain ⟨i, hir, rfl⟩ := List.mem_map.1 he
      exact (hf i (by have := List.mem_range.1 hir; omega)).1

/-- A row of frames of one's own. -/
structure OwnF (B C : Nat) (w : World) (v : Value) (l : List Fm) : Prop where
  row : w.ownsRow C 48 2 v l.length (fmRow l)
  ok : ∀ m ∈ l, FmOk B w m
theorem ownF_nil (B C : Nat) (w : World) : OwnF B C w (.slice none 0 0) [] := ⟨World.ownsRow_nil _ _ _ _, fun m hm => by cases hm⟩
theorem OwnF.shape {B C : Nat} {w : World} {v : Value} {l : List Fm} (h : OwnF B C w v l) : ∃ ao cap, v = .slice ao l.length cap := own_slice' h.row
theorem OwnF.only {B C : Nat} {w w' : World} {S : Nat → Prop} {v : Value} {l : List Fm} (h : OwnF B C w v l) (hB : B ≤ w.heap.size) (ho : Only w w' S) (hS : ∀ k, S k → B ≤ k) (hv : ∀ k, S k → v.ownBlock ≠ some k) : OwnF B C w' v l :=
  ⟨row_only h.row ho (fun k hk hs => hv k hs hk), fun m hm => (h.ok m hm).below (ho.below hB hS)⟩
theorem OwnF.below {B C : Nat} {w w' : World} {v : Value} {l : List Fm} (h : OwnF B C w v l) (hB : B ≤ w.heap.size) (hb : Below w.heap.size w w') : OwnF B C w' v l :=
  h.only hB (Only.of_below hb (fun _ => False)) (fun k e => e.elim) (fun k e => e.elim)
theorem OwnF.tag {B C : Nat} {w : World} {v : Value} {l : List Fm} (h : OwnF B C w v l) {k : Nat} (hk : v.ownBlock = some k) : C ≤ k ∧ Tag w k 48 := ⟨(h.row.lt k hk).1, tag_row h.row hk⟩
theorem OwnF.at {w : World} {B C n cap : Nat} {ao : Option Addr} {l : List Fm} (h : OwnF B C w (.slice ao n cap) l) (i : Nat) (hi : i < l.length) : ∃ g, ao = some ⟨g, 0, none⟩ ∧ w.cell? ⟨g, i * 2, none⟩ = some (.int .u32 (l[i].f.q : Int)) ∧ w.cell? ⟨g, i * 2 + 1, none⟩ = some (.slice l[i].ao l[i].f.evs.length l[i].cap) := by
  have hown := h.row
  rcases hown.2 with ⟨e, hn⟩ | ⟨g, cap', cur, e, hb, hg, hc, hm, hs, ht⟩
  · omega
  · cases e
    have key : ∀ d, d < 2 → w.cell? ⟨g, i * 2 + d, none⟩ = (fm2 l[i])[d]? := by
      intro d hd
      rw [hown.cellAt (i * 2 + d) (by omega), fmRow_at l i hi d hd]
    exact ⟨g, rfl, key 0 (by omega), key 1 (by omega)⟩
theorem Tryd.infoFr : (Tryd.prog.info? 48).map (fun i => (i.zero, i.size, i.bytes)) = some (some (.agg #[.int .u32 0, .slice none 0 0]), 2, 32) := by kernel_rfl
theorem wpList_append_fm {w : World} {ops : Array Oper} {rest : List Oper} {o : Oper} {a : Act} {Q : Exit → Act → World → Prop} (hgd : o.guard = none) (sl x : Operand)
    (ho : o.op = .call { callee := .builtin .append, args := #[sl, x], argTypes := #[49, 49] }) (C : Nat) (v : Value) (hs : a.eval sl = v) (l : List Fm) (h : w.ownsRow C 48 2 v l.length (fmRow l)) (hC : C ≤ w.heap.size) (m : Fm) (g : Nat)
    (hx : a.eval x = .slice (some ⟨g, 0, none⟩) 1 1) (hg : w.heap[g]? = some (frO m.f.q m.ao m.f.evs.length m.cap)) (hb : l.length ≤ 1000000)
    (hK : ∀ ao cap w', w'.ownsRow C 48 2 (.slice ao (l.length + 1) cap) (l ++ [m]).length (fmRow (l ++ [m])) → w.grownBy w' v.ownBlock → wpList Tryd.prog ops Q rest (a.put o.dst (.slice ao (l.length + 1) cap)) w') : wpList Tryd.prog ops Q (o :: rest) a w := by
  obtain ⟨i0, hi, hz0, hz1, hz2⟩ : ∃ i, Tryd.prog.info? 48 = some i ∧ i.zero = some (.agg #[.int .u32 0, .slice none 0 0]) ∧ i.size = 2 ∧ i.bytes = 32 := by
    have h := Tryd.infoFr
    cases hi : Tryd.prog.info? 48 with
    | none => rw [hi] at h; cases h
    | some i =>
      rw [hi] at h
      simp only [Option.map_some, Option.some.injEq, Prod.mk.injEq] at h
      exact ⟨i, rfl, h.1, h.2.1, h.2.2⟩
  have hseg : ∀ j u, (fm2 m)[j]? = some u → w.cell? ((⟨g, 0, none⟩ : Addr).add j) = some u := by
    intro j u hj
    have hlt : j < 2 := (List.getElem?_eq_some_iff.1 hj).1
    obtain ⟨c0, c1, -, -⟩ := frcells hg
    have ha : (⟨g, 0, none⟩ : Addr).add j = ⟨g, j, none⟩ := by unfold Addr.add; split <;> simp_all
    rw [ha, ← hj]
    match j, hlt with
    | 0, _ => exact c0
    | 1, _ => exact c1
  refine wpList_append_own w hgd sl x 49 ho C 48 i0 _ 2 32 Tryd.underlying49 hi hz0 hz1 hz2 rfl (by decide) v l.length (fmRow l) hs h ⟨g, 0, none⟩ 1 1 (fm2 m) hx rfl hseg (by rw [← fmRow_one]; exact fmRow_cell _) (by unfold maxLen; omega) (by omega) hC ?_
  intro v' w' h1 h2 _
  rw [← fmRow_one, ← fmRow_append] at h1
  obtain ⟨ao, cap, rfl⟩ := own_slice' h1
  exact hK ao cap w' (by rw [List.length_append]; exact h1) h2
theorem OwnF.app {w w' : World} {B C : Nat} {v v' : Value} {l : List Fm} (h : OwnF B C w v l) (hB : B ≤ w.heap.size) (hBC : B ≤ C) (m : Fm) (hm : FmOk B w m) (hr : w'.ownsRow C 48 2 v' (l ++ [m]).length (fmRow (l ++ [m]))) (hg : w.grownBy w' v.ownBlock) : OwnF B C w' v' (l ++ [m]) := by
  have ho : Only w w' (fun k => v.ownBlock = some k) := Only.of_grown hg (fun k e => e)
  have hb := ho.below hB (fun k e => Nat.le_trans hBC (h.tag e).1)
  refine ⟨hr, fun x hx => ?_⟩
  rcases List.mem_append.1 hx with hx | hx
  · exact (h.ok x hx).below hb
  · simp only [List.mem_cons, List.not_mem_nil, or_false] at hx
    subst hx
    exact hm.below hb

/-! ### Texts in rows -/

/-- A row of texts of one's own. -/
def OwnT (C : Nat) (w : World) (v : Value) (l : List ByteArray) : Prop := w.ownsRow C 9 1 v l.length (l.map Value.string)
theorem OwnT.shape {C : Nat} {w : World} {v : Value} {l : List ByteArray} (h : OwnT C w v l) : ∃ ao cap, v = .slice ao l.length cap := own_slice' h
theorem OwnT.only {C : Nat} {w w' : World} {S : Nat → Prop} {v : Value} {l : List ByteArray} (h : OwnT C w v l) (ho : Only w w' S) (hv : ∀ k, S k → v.ownBlock ≠ some k) : OwnT C w' v l := row_only h ho (fun k hk hs => hv k hs hk)
theorem OwnT.below {C : Nat} {w w' : World} {v : Value} {l : List ByteArray} (h : OwnT C w v l) (hb : Below w.heap.size w w') : OwnT C w' v l := h.only (Only.of_below hb (fun _ => False)) (fun k e => e.elim)
theorem OwnT.tag {C : Nat} {w : World} {v : Value} {l : List ByteArray} (h : OwnT C w v l) {k : Nat} (hk : v.ownBlock = some k) : C ≤ k ∧ Tag w k 9 := ⟨(World.ownsRow.lt h k hk).1, tag_row h hk⟩
theorem OwnT.at {w : World} {C n cap : Nat} {ao : Option Addr} {l : List ByteArray} (h : OwnT C w (.slice ao n cap) l) (i : Nat) (hi : i < l.length) : ∃ g, ao = some ⟨g, 0, none⟩ ∧ w.cell? ⟨g, i, none⟩ = some (.string l[i]) := by
  have hown : w.ownsRow C 9 1 (.slice ao n cap) l.length (l.map Value.string) := h
  rcases hown.2 with ⟨e, hn⟩ | ⟨g, cap', cur, e, hb, hg, hc, hm, hs, ht⟩
  · omega
  · cases e
    refine ⟨g, rfl, ?_⟩
    rw [hown.cellAt i (by omega), List.getElem?_map, List.getElem?_eq_getElem hi]
    rfl
theorem Tryd.infoSt : (Tryd.prog.info? 9).map (fun i => (i.zero, i.size, i.bytes)) = some (some (.string ⟨#[]⟩), 1, 16) := by kernel_rfl
theorem wpList_append_tx {w : World} {ops : Array Oper} {rest : List Oper} {o : Oper} {a : Act} {Q : Exit → Act → World → Prop} (hgd : o.guard = none) (sl x : Operand)
    (ho : o.op = .call { callee := .builtin .append, args := #[sl, x], argTypes := #[22, 22] }) (C : Nat) (v : Value) (hs : a.eval sl = v) (l : List ByteArray) (h : OwnT C w v l) (hC : C ≤ w.heap.size) (t : ByteArray) (g : Nat)
    (hx : a.eval x = .slice (some ⟨g, 0, none⟩) 1 1) (hg : w.cell? ⟨g, 0, none⟩ = some (.string t)) (hb : l.length ≤ 1000000)
    (hK : ∀ ao cap w', OwnT C w' (.slice ao (l.length + 1) cap) (l ++ [t]) → w.grownBy w' v.ownBlock → wpList Tryd.prog ops Q rest (a.put o.dst (.slice ao (l.length + 1) cap)) w') : wpList Tryd.prog ops Q (o :: rest) a w := by
  obtain ⟨i0, hi, hz0, hz1, hz2⟩ := info_parts Tryd.infoSt
  have hseg : ∀ j u, ([t].map Value.string)[j]? = some u → w.cell? ((⟨g, 0, none⟩ : Addr).add j) = some u := by
    intro j u hj
    have hlt : j < 1 := by simpa using (List.getElem?_eq_some_iff.1 hj).1
    have hj0 : j = 0 := by omega
    subst hj0
    have ha : (⟨g, 0, none⟩ : Addr).add 0 = ⟨g, 0, none⟩ := by unfold Addr.add; split <;> simp_all
    rw [ha, hg]
    simpa using hj
  refine wpList_append_own w hgd sl x 22 ho C 9 i0 _ 1 16 Tryd.underlying22 hi hz0 hz1 hz2 rfl (by decide) v l.length (l.map Value.string) hs h ⟨g, 0, none⟩ 1 1 ([t].map Value.string) hx rfl hseg (by intro u hu; simp only [List.map_cons, List.map_nil, List.mem_cons, List.not_mem_nil, or_false] at hu; subst hu; rfl) (by unfold maxLen; omega) (by omega) hC ?_
  intro v' w' h1 h2 _
  rw [← List.map_append] at h1
  obtain ⟨ao, cap, rfl⟩ := own_slice' h1
  exact hK ao cap w' (by unfold OwnT; rw [List.length_append]; exact h1) h2

end Go.Proofs.YtobioiicbdhboaaDoor

namespace Go.Proofs.YtobioiicbdhboaaDoor
open Go.RowKit
set_option linter.unusedVariables false
set_option linter.unusedSimpArgs false

/-! ### rising -/

def RiseTo : Nat → List Fr → Nat → Prop
  | n, [], m => n = m
  | n, f :: F, m => n ≤ f.q ∧ f.Ok ∧ RiseTo (f.q + 1) F m
theorem RiseTo.rise : ∀ {n : Nat} {F : List Fr} {m : Nat}, RiseTo n F m → Rise n F
  | _, [], _, _ => trivial
  | _, f :: F, _, h => ⟨h.1, h.2.1, h.2.2.rise⟩
theorem RiseTo.snoc : ∀ {n : Nat} {F : List Fr} {m : Nat} {f : Fr}, RiseTo n F m → m ≤ f.q → f.Ok → RiseTo n (F ++ [f]) (f.q + 1)
  | _, [], _, f, h, hq, ho => ⟨by rw [show _ = _ from h]; exact hq, ho, rfl⟩
  | _, g :: F, _, f, h, hq, ho => ⟨h.1, h.2.1, h.2.2.snoc hq ho⟩
def txOf (m : Fm) : ByteArray := ⟨m.f.text.toArray⟩

/-- What rising holds. -/
structure RI (B C : Nat) (W wr : World) (va vt : Value) (lf : List Fm) (n : Nat) : Prop where
  fr : OwnF B C wr va lf
  tx : OwnT C wr vt (lf.map txOf)
  rise : RiseTo 0 (lf.map Fm.f) n
  bel : Below C W wr
  hC : C ≤ wr.heap.size
  hBC : B ≤ C
  nb : n ≤ 5 * lf.length
  len : lf.length ≤ 8
theorem RI.below {B C : Nat} {W wr wr' : World} {va vt : Value} {lf : List Fm} {n : Nat} (h : RI B C W wr va vt lf n) (hb : Below wr.heap.size wr wr') : RI B C W wr' va vt lf n :=
  ⟨h.fr.below (Nat.le_trans h.hBC h.hC) hb, h.tx.below hb, h.rise, h.bel.trans (hb.mono h.hC), Nat.le_trans h.hC hb.size, h.hBC, h.nb, h.len⟩

theorem SeenE.moved {w w' : World} {ao : Option Addr} {cap B : Nat} {l : List Ev} (h : SeenE w ao cap l) (hpl : l ≠ [] → ∀ x, ao = some x → x.block < B) (hb : Below B w w') : SeenE w' ao cap l := by
  by_cases hl : l = []
  · subst hl
    exact ⟨h.mx, h.lc, h.nn, fun i hi => by simp at hi⟩
  · exact h.belowB hb (hpl hl)
theorem RI.mid {B C : Nat} {W w4 w6 : World} {va vt : Value} {lf : List Fm} {n : Nat} (h : RI B C W w4 va vt lf n) (o : Obj) (hg : (w4.alloc o).grownBy w6 va.ownBlock) : OwnT C w6 vt (lf.map txOf) ∧ C ≤ w6.heap.size := by
  have ho : Only w4 w6 (fun k => va.ownBlock = some k) := (Only.alloc w4 o _).trans (Only.of_grown hg (fun k e => e)) (fun _ _ e => e)
  exact ⟨h.tx.only ho (fun k e hk => (h.fr.tag e).2.ne (h.tx.tag hk).2 (by decide) rfl), Nat.le_trans h.hC ho.size⟩
theorem RI.add {B C : Nat} {W w4 w6 w8 : World} {va vt va' vt' : Value} {lf : List Fm} {n : Nat} (h : RI B C W w4 va vt lf n) (m : Fm) (hm : FmOk B w4 m) (hr : n ≤ m.f.q) (hok : m.f.Ok) (hq : m.f.q < n + 5) (h8 : lf.length < 8) (o5 o7 : Obj)
    (hr6 : w6.ownsRow C 48 2 va' (lf ++ [m]).length (fmRow (lf ++ [m]))) (hg : (w4.alloc o5).grownBy w6 va.ownBlock) (ht : OwnT C w8 vt' (lf.map txOf ++ [txOf m])) (hg2 : (w6.alloc o7).grownBy w8 vt.ownBlock) : RI B C W w8 va' vt' (lf ++ [m]) (m.f.q + 1) := by
  have hBw : B ≤ w4.heap.size := Nat.le_trans h.hBC h.hC
  have b5 : Below w4.heap.size w4 (w4.alloc o5) := (Below.refl _ w4).alloc (Nat.le_refl _) _
  have f5 := h.fr.below hBw b5
  have f6 := f5.app (Nat.le_trans hBw b5.size) h.hBC m (hm.below (b5.mono hBw)) hr6 hg
  have o46 : Only w4 w6 (fun k => va.ownBlock = some k) := (Only.alloc w4 o5 _).trans (Only.of_grown hg (fun k e => e)) (fun _ _ e => e)
  have o68 : Only w6 w8 (fun k => vt.ownBlock = some k) := (Only.alloc w6 o7 _).trans (Only.of_grown hg2 (fun k e => e)) (fun _ _ e => e)
  have t6 := (h.mid o5 hg).1
  have hC6 := (h.mid o5 hg).2
  have b46 := o46.below h.hC (fun k e => (h.fr.tag e).1)
  have b68 := o68.below hC6 (fun k e => (t6.tag e).1)
  refine ⟨f6.only (Nat.le_trans h.hBC hC6) o68 (fun k e => Nat.le_trans h.hBC (t6.tag e).1) (fun k e hk => (t6.tag e).2.ne (f6.tag hk).2 (by decide) rfl), by rw [List.map_append]; exact ht, ?_, (h.bel.trans b46).trans b68, Nat.le_trans hC6 o68.size, h.hBC, ?_, ?_⟩
  · rw [List.map_append]
    exact h.rise.snoc hr hok
  · have := h.nb
    rw [List.length_append, List.length_singleton]
    omega
  · rw [List.length_append, List.length_singleton]
    omega

/-- A block that was made, and one cell of it set: nothing old is turned. -/
theorem below_made (w : World) (o : Obj) (i : Nat) (v : Value) : Below w.heap.size w ((w.alloc o).setCell ⟨w.heap.size, i, none⟩ v) :=
  ⟨rfl, rfl, rfl, by simp, fun k hk => by rw [heap_setCell_other _ _ _ _ (by simp; omega)]; exact Below.heap_alloc w o k hk⟩

set_option maxRecDepth 100000 in
set_option maxHeartbeats 8000000 in
theorem rising_any {W : World} (B : Nat) (hB : B ≤ W.heap.size) (ao : Option Addr) (cap : Nat) (l : List Fm) (hl : l.length ≤ 100)
    (hrow : ∀ i (hi : i < l.length), ∃ b off, ao = some ⟨b, off, none⟩ ∧ b < B ∧ W.cell? ⟨b, off + i * 2, none⟩ = some (.int .u32 (l[i].f.q : Int)) ∧ W.cell? ⟨b, off + i * 2 + 1, none⟩ = some (.slice l[i].ao l[i].f.evs.length l[i].cap))
    (hok : ∀ m ∈ l, SeenE W m.ao m.cap m.f.evs ∧ (∀ e ∈ m.f.evs, EvFits e) ∧ m.f.q < 4294967296 ∧ (m.f.evs ≠ [] → ∀ x, m.ao = some x → x.block < B)) :
    Calls Tryd.prog 22 #[.slice ao l.length cap] W fun r w' => ∃ (a1 : Option Addr) (p1 : Nat) (a2 : Option Addr) (p2 : Nat) (lf : List Fm) (n : Nat), r = .returned (.tuple #[.slice a1 lf.length p1, .slice a2 lf.length p2]) ∧ RI B W.heap.size W w' (.slice a1 lf.length p1) (.slice a2 lf.length p2) lf n := by
  have HR := Lib.hid hrow
  have HK := Lib.hid hok
  have R0 : RI B W.heap.size W W (.slice none 0 0) (.slice none 0 0) [] 0 := ⟨ownF_nil _ _ _, World.ownsRow_nil _ _ _ _, rfl, Below.refl _ _, Nat.le_refl _, hB, by simp, by simp⟩
  have HR0 := Lib.hid R0
  obtain ⟨C, hC⟩ : ∃ C, W.heap.size = C := ⟨_, rfl⟩
  rw [hC] at HR0 hB ⊢
  obtain ⟨N, hN⟩ : ∃ N, l.length = N := ⟨_, rfl⟩
  rw [hN] at hl ⊢
  have HN := Lib.hid hN
  clear hrow hok R0 hC hN
  go_enter Tryd.func22, Tryd.ntmps22
  go_wp2_with fail
  go_loopw [4, 5, 6, 13] (fun va vt nx i wr => ∃ (k n : Nat) (lf : List Fm), k ≤ N ∧ i = .int .i64 k ∧ nx = .int .u64 (n : Int) ∧ Hid (RI B C W wr va vt lf n)) (fun _ _ _ i _ => N - (intOf i).toNat)
  case atStart => exact ⟨0, 0, [], Nat.zero_le _, rfl, rfl, HR0⟩
  case round =>
    clear HR0
    obtain ⟨k, n, lf, hk, rfl, rfl, R⟩ := hrel
    obtain ⟨a1, p1, hv1⟩ := R.out.fr.shape
    obtain ⟨a2, p2, hv2⟩ := R.out.tx.shape
    rw [List.length_map] at hv2
    subst hv1 hv2
    by_cases hlt : k < N
    · have hk1 : k < l.length := by rw [HN.out]; exact hlt
      obtain ⟨b, off, hao, hbB, c0, c1⟩ := HR.out k hk1
      subst hao
      have hbw : b < C := by omega
      have d0 := (R.out.bel.cell (p := ⟨b, off + k * 2, none⟩) hbw).trans c0
      have d1 := (R.out.bel.cell (p := ⟨b, off + k * 2 + 1, none⟩) hbw).trans c1
      obtain ⟨hsn, hfit, hq, hpl⟩ := HK.out _ (List.getElem_mem hk1)
      generalize l[k] = mm at *
      obtain ⟨⟨q, evs⟩, aoE, capE⟩ := mm
      simp only at d0 d1 hsn hfit hq hpl
      have hkI : (k : Int) < (N : Int) := by omega
      have hnb := R.out.nb
      have hln := R.out.len
      clear c0 c1
      by_cases hsk : 40 < evs.length ∨ 8 ≤ lf.length
      · have RB := Lib.hid (R.out.below ((Below.refl _ wr).alloc (Nat.le_refl _) (frO q aoE evs.length capE)))
        clear R
        by_cases h40 : 40 < evs.length
        · have hd1 : decide ((40 : Int) < (evs.length : Int)) = true := by simp; omega
          have hd2 : decide (40 < evs.length) = true := by simp; omega
          go_wp2_with fail
          go_roundw
          case rel => exact ⟨k + 1, n, lf, by omega, by go_num, rfl, RB⟩
          case measure => simp [intOf]; omega
        · have hd1 : decide ((40 : Int) < (evs.length : Int)) = false := by simp; omega
          have hd2 : decide (40 < evs.length) = false := by simp; omega
          have hd3 : decide ((8 : Int) ≤ (lf.length : Int)) = true := by simp; omega
          have hd4 : decide (8 ≤ lf.length) = true := by simp; omega
          go_wp2_with fail
          go_roundw
          case rel => exact ⟨k + 1, n, lf, by omega, by go_num, rfl, RB⟩
          case measure => simp [intOf]; omega
      · have hd1 : decide ((40 : Int) < (evs.length : Int)) = false := by simp; omega
        have hd2 : decide (40 < evs.length) = false := by simp; omega
        have hd3 : decide ((8 : Int) ≤ (lf.length : Int)) = false := by simp; omega
        have hd4 : decide (8 ≤ lf.length) = false := by simp; omega
        obtain ⟨q', hq'⟩ : ∃ q', q' = n + q % 5 := ⟨_, rfl⟩
        have hq5 : q' < 100 := by omega
        have hqI : (n : Int) + (q : Int) % 5 = (q' : Int) := by omega
        obtain ⟨w2, x2⟩ : ∃ w2, w2 = wr.alloc (frO q' aoE evs.length capE) := ⟨_, rfl⟩
        obtain ⟨s2', n2, b2⟩ := new_size x2
        have h8 : lf.length < 8 := by omega
        have R2 := Lib.hid (R.out.below b2)
        have s2 := hsn.moved hpl (R2.out.bel.mono R2.out.hBC)
        have HP := Lib.hid (rfprint_any q' (by omega) aoE capE evs w2 s2 hfit (by omega))
        have N2 := Lib.hid n2
        have S2 := Lib.hid s2
        have HRow := Lib.hid (fun k hk => (R.out.fr.row.lt k hk).2)
        have HPO := Lib.hid (fun h => print_ok (q := q') (l := evs) h)
        have HTx : Hid (txOf ⟨⟨q', evs⟩, aoE, capE⟩ = ⟨(frameP q' evs).1.toArray⟩) := Lib.hid rfl
        obtain ⟨c, hc⟩ : ∃ c, (frameP q' evs).2 = c := ⟨_, rfl⟩
        obtain ⟨tx, htx⟩ : ∃ tx : ByteArray, tx = ⟨(frameP q' evs).1.toArray⟩ := ⟨_, rfl⟩
        rw [hc, ← htx] at HP
        rw [← htx] at HTx
        have HC0 := Lib.hid hc
        have Hq' := Lib.hid hq'
        unfold frO at x2
        clear R b2 n2 s2 hsn hc htx hsk hq' s2'
        go_wp2_with fail
        rw [← x2]
        clear x2
        refine HP.out.mono ?_
        rintro r w4 ⟨rfl, b4⟩
        have R4 := Lib.hid (R2.out.below b4)
        have n4 := (b4.block _ (blk_lt N2.out)).trans N2.out
        have N4 := Lib.hid n4
        have S4 := Lib.hid (S2.out.below b4)
        obtain ⟨e0, e1, -, -⟩ := frcells n4
        have hw4 : wr.heap.size < w4.heap.size := blk_lt n4
        clear b4 n4 R2 N2 S2 HP
        by_cases hc0 : c = 0
        · have hcb : (c == 0) = true := by rw [hc0]; rfl
          have hpo := HPO.out (HC0.out.trans hc0)
          have FO := Lib.hid (show FmOk B w4 ⟨⟨q', evs⟩, aoE, capE⟩ from ⟨S4.out, hpl (fun e => by rw [e] at hpo; simp at hpo), hfit, by show q' < _; omega⟩)
          have OK := Lib.hid (show Fr.Ok ⟨q', evs⟩ from ⟨by show q' < _; omega, hfit, HC0.out.trans hc0⟩)
          clear hpo
          go_wp2_with (at_builtin; refine wpList_append_fm rfl _ _ rfl C _ rfl lf (World.ownsRow.alloc R4.out.fr.row _) ?_ ⟨⟨q', evs⟩, aoE, capE⟩ _ rfl (heap_alloc_new w4 _) (by omega) ?_)
          · have := R4.out.hC; simp; omega
          · intro a6 p6 w6 r6 g6
            have m6 := R4.out.mid _ g6
            have n6 : w6.heap[wr.heap.size]? = some (frO q' aoE evs.length capE) := by
              refine (g6.block wr.heap.size (by simp; omega) (fun e => ?_)).trans ((Below.heap_alloc w4 _ _ hw4).trans N4.out)
              have := HRow.out _ e.symm
              omega
            have M6 := Lib.hid m6
            have N6 := Lib.hid n6
            have R6 := Lib.hid r6
            have G6 := Lib.hid g6
            clear m6 n6 r6 g6 e0 e1
            go_wp2_with (at_builtin; refine wpList_append_tx rfl _ _ rfl C _ rfl (lf.map txOf) ?_ ?_ tx _ rfl ?_ (by rw [List.length_map]; omega) ?_)
            · have := M6.out.1.below ((Below.refl _ w6).alloc (Nat.le_refl _) (.cells #[.string tx] 9)); exact this
            · have := M6.out.2; simp; omega
            · simp
            · intro a8 p8 w8 r8 g8
              rw [← HTx.out] at r8
              have RR := R4.out.add (va' := .slice a6 (lf.length + 1) p6) (vt' := .slice a8 (lf.length + 1) p8) ⟨⟨q', evs⟩, aoE, capE⟩ FO.out (by have := Hq'.out; show n ≤ q'; omega) OK.out (by have := Hq'.out; show q' < n + 5; omega) h8 _ _ (by rw [List.length_append]; exact R6.out) G6.out r8 g8
              have n8 : w8.heap[wr.heap.size]? = some (frO q' aoE evs.length capE) := by
                refine (g8.block wr.heap.size (by have := blk_lt N6.out; simp; omega) (fun e => ?_)).trans ((Below.heap_alloc w6 _ _ (blk_lt N6.out)).trans N6.out)
                exact (M6.out.1.tag e.symm).2.ne (b := 48) ⟨_, _, N6.out⟩ (by decide) rfl
              obtain ⟨e0, e1, -, -⟩ := frcells n8
              have RK := Lib.hid RR
              clear RR r8 g8 M6 N6 R6 G6 n8
              go_wp2_with fail
              go_roundw
              case rel => exact ⟨k + 1, q' + 1, lf ++ [⟨⟨q', evs⟩, aoE, capE⟩], by omega, by go_num, by go_num, RK⟩
              case measure => simp [intOf]; omega
        · have hcb : (c == 0) = false := by simpa using hc0
          go_wp2_with fail
          go_roundw
          case rel => exact ⟨k + 1, n, lf, by omega, by go_num, rfl, R4⟩
          case measure => simp [intOf]; omega
    · have hd1 : decide ((k : Int) < (N : Int)) = false := by simp; omega
      have hd2 : decide (k < N) = false := by simp; omega
      have hnI : ¬ ((k : Int) < (N : Int)) := by omega
      go_wp2_with fail
      go_ret2
      exact ⟨a1, p1, a2, p2, lf, rfl, n, R.out⟩

end Go.Proofs.YtobioiicbdhboaaDoor

namespace Go.Proofs.YtobioiicbdhboaaDoor
open Go.RowKit
set_option linter.unusedVariables false
set_option linter.unusedSimpArgs false

/-- append of items, as one step of a region that draws. -/
theorem step_append_im {ops : Array Oper} {o : Oper} {a : Act} {w : World} {K : Act → World → Prop} {Q : Exit → Act → World → Prop} {E : Prop} (hgd : o.guard = none) (sl x : Operand)
    (ho : o.op = .call { callee := .builtin .append, args := #[sl, x], argTypes := #[35, 35] }) (C C2 : Nat) (v vx : Value) (hs : a.eval sl = v) (l l2 : List Im) (h : w.ownsRow C 44 4 v l.length (imRow l)) (hC : C ≤ w.heap.size)
    (hx : a.eval x = vx) (h2 : w.ownsRow C2 44 4 vx l2.length (imRow l2)) (hb : l.length + l2.length ≤ 4000000)
    (hK : ∀ ao cap w', w'.ownsRow C 44 4 (.slice ao (l.length + l2.length) cap) (l ++ l2).length (imRow (l ++ l2)) → w.grownBy w' v.ownBlock → K (a.put o.dst (.slice ao (l.length + l2.length) cap)) w') : if Region.wanted o (yielded ops a.tmps) = true then Oper.wp Tryd.prog o a w K Q else E := by
  have hw : Region.wanted o (yielded ops a.tmps) = true := by simp [Region.wanted, hgd]
  rw [if_pos hw]
  obtain ⟨ao, cap, w', hrun, h1, h3⟩ := run_append_im h hC h2 o.type hb
  unfold Oper.wp
  simp [execOp, ho, resolve, invoke, builtin, hs, hx, hrun, Result.andThen]
  exact hK ao cap w' h1 h3

/-- What Told holds. -/
structure TI (B C D : Nat) (W wr : World) (v out : Value) (lf : List Fm) (lt : List Im) : Prop where
  own : OwnI B D wr out lt
  fr : OwnF B C wr v lf
  bel : Below D W wr
  hD : D ≤ wr.heap.size
  hBD : B ≤ D
theorem TI.below {B C D : Nat} {W wr wr' : World} {v out : Value} {lf : List Fm} {lt : List Im} (h : TI B C D W wr v out lf lt) (hb : Below wr.heap.size wr wr') : TI B C D W wr' v out lf lt :=
  ⟨h.own.below hb, h.fr.below (Nat.le_trans h.hBD h.hD) hb, h.bel.trans (hb.mono h.hD), Nat.le_trans h.hD hb.size, h.hBD⟩
theorem TI.app {B C D : Nat} {W wr w6 : World} {v out out' : Value} {lf : List Fm} {lt : List Im} (h : TI B C D W wr v out lf lt) (m : Im) (hm : ImOk B wr m) (hr : w6.ownsRow D 44 4 out' (lt ++ [m]).length (imRow (lt ++ [m]))) (hg : (wr.alloc (imO m)).grownBy w6 out.ownBlock) : TI B C D W w6 v out' lf (lt ++ [m]) := by
  have ba : Below wr.heap.size wr (wr.alloc (imO m)) := (Below.refl _ wr).alloc (Nat.le_refl _) _
  have h1 := h.below ba
  have hm1 : ImOk B (wr.alloc (imO m)) m := hm.only (Only.of_below ba (fun _ => False)) (fun k e => e.elim)
  have ho : Only (wr.alloc (imO m)) w6 (fun k => out.ownBlock = some k) := Only.of_grown hg (fun k e => e)
  have hb := ho.below h1.hD (fun k e => (h1.own.tag e).1)
  refine ⟨h1.own.app (C2 := 0) (vx := .slice none 0 0) (fun x hx => ?_) h1.hBD hr hg, h1.fr.only (Nat.le_trans h1.hBD h1.hD) ho (fun k e => Nat.le_trans h1.hBD (h1.own.tag e).1) (fun k e hk => (h1.own.tag e).2.ne (h1.fr.tag hk).2 (by decide) rfl), h1.bel.trans hb, Nat.le_trans h1.hD ho.size, h1.hBD⟩
  simp only [List.mem_cons, List.not_mem_nil, or_false] at hx
  subst hx
  exact hm1
theorem TI.keep {B C D : Nat} {W wr w6 : World} {v out : Value} {lf : List Fm} {lt : List Im} (h : TI B C D W wr v out lf lt) (o : Obj) {x : Im} (hx : ImOk B wr x) (hg : (wr.alloc o).grownBy w6 out.ownBlock) : ImOk B w6 x := by
  have ho : Only wr w6 (fun k => out.ownBlock = some k) := (Only.alloc wr o _).trans (Only.of_grown hg (fun k e => e)) (fun _ _ e => e)
  exact hx.only ho (fun k e => ⟨Nat.le_trans h.hBD (h.own.tag e).1, fun tg => tg.ne (h.own.tag e).2 (by decide) rfl⟩)
theorem imOk_drewN {B : Nat} {w : World} {x : Im} (h : ImOk B w x) (q : Nat) : ImOk B (w.drewN q) x := h.only (Only.drewN w q (fun _ => False)) (fun k e => e.elim)
theorem fm_im {B : Nat} {w : World} {m : Fm} (h : FmOk B w m) : ImOk B w ⟨⟨1, m.f.q, 0, m.f.evs⟩, m.ao, m.cap⟩ := ⟨h.sn, fun x hx => .inl (h.pl x hx)⟩

set_option maxRecDepth 100000 in
set_option maxHeartbeats 8000000 in
theorem told_any {W : World} {B C : Nat} {v : Value} {lf : List Fm} (h : OwnF B C W v lf) (hB : B ≤ W.heap.size) (hr : Rise 0 (lf.map Fm.f)) (hl : lf.length ≤ 8) :
    Calls Tryd.prog 24 #[v] W fun r w' => ∃ (a : Option Addr) (p : Nat) (lt : List Im), r = .returned (.slice a lt.length p) ∧ OwnI B W.heap.size w' (.slice a lt.length p) lt ∧ lt.map Im.it = toldL 0 (lf.map Fm.f) ∧ OwnF B C w' v lf ∧ Below W.heap.size W w' := by
  obtain ⟨av, pv, hv⟩ := h.shape
  subst hv
  obtain ⟨w1, x1⟩ : ∃ w1, w1 = W.alloc (.cells #[] 44) := ⟨_, rfl⟩
  obtain ⟨s1, n1, b1⟩ := new_size x1
  obtain ⟨N, hN⟩ : ∃ N, lf.length = N := ⟨_, rfl⟩
  rw [hN] at h hl ⊢
  have P0 : TI B C W.heap.size W w1 (.slice av N pv) (.slice (some ⟨W.heap.size, 0, none⟩) 0 0) lf [] :=
    ⟨⟨by rw [x1]; exact World.ownsRow_lit W #[] 0 (Nat.le_refl _) (by decide) rfl, fun x hx => by cases hx⟩, h.below hB b1, b1, b1.size, hB⟩
  have HP0 := Lib.hid P0
  have HN := Lib.hid hN
  obtain ⟨F0, hF0⟩ : ∃ F0, toldL 0 (lf.map Fm.f) = F0 := ⟨_, rfl⟩
  rw [hF0]
  have HF0 := Lib.hid hF0
  have HR0 := Lib.hid hr
  obtain ⟨D, hD⟩ : ∃ D, W.heap.size = D := ⟨_, rfl⟩
  have HD := Lib.hid hD
  rw [hD] at HP0 ⊢
  clear h P0 s1 n1 b1 hN hF0 hr hD
  go_enter Tryd.func24, Tryd.ntmps24
  go_wp2_with fail
  rw [← x1, HD.out]
  clear x1
  go_loopw [3, 4, 5] (fun out nx i wr => ∃ (k n : Nat) (lt : List Im), k ≤ N ∧ i = .int .i64 k ∧ nx = .int .u64 (n : Int) ∧ Hid (TI B C D W wr (.slice av N pv) out lf lt) ∧ Hid (lt.map Im.it ++ toldL n ((lf.drop k).map Fm.f) = F0) ∧ Hid (Rise n ((lf.drop k).map Fm.f)) ∧ n ≤ 4294967296 ∧ lt.length ≤ 2 * k) (fun _ _ i _ => N - (intOf i).toNat)
  case atStart => exact ⟨0, 0, [], Nat.zero_le _, rfl, rfl, HP0, by rw [List.drop_zero]; exact HF0, by rw [List.drop_zero]; exact HR0, by decide, by simp⟩
  case round =>
    clear HP0 HF0 HR0
    obtain ⟨k, n, lt, hk, rfl, rfl, P, HT, HRi, hn, hcnt⟩ := hrel
    obtain ⟨a3, p3, hx⟩ := P.out.own.shape
    subst hx
    by_cases hlt : k < N
    · have hk1 : k < lf.length := by rw [HN.out]; exact hlt
      obtain ⟨q, evs, aoE, capE, hmm⟩ : ∃ q evs aoE capE, lf[k] = ⟨⟨q, evs⟩, aoE, capE⟩ := ⟨_, _, _, _, rfl⟩
      have hdr : (lf.drop k).map Fm.f = lf[k].f :: (lf.drop (k + 1)).map Fm.f := by rw [List.drop_eq_getElem_cons hk1, List.map_cons]
      have ht := HT.out
      have hri := HRi.out
      rw [hdr, hmm] at ht hri
      obtain ⟨g, ha, c0, c1⟩ := P.out.fr.at k hk1
      have fok := P.out.fr.ok _ (List.getElem_mem hk1)
      rw [hmm] at c0 c1 fok
      subst ha
      simp only at c0 c1
      have hnq : n ≤ q := hri.1
      have hq : q < 4294967296 := fok.q
      have hri2 := hri.2.2
      simp only at hri2
      rw [toldL] at ht
      simp only at ht
      have HR2 := Lib.hid hri2
      have hkI : (k : Int) < (N : Int) := by omega
      have IM := Lib.hid (fm_im fok)
      simp only at IM
      obtain ⟨j, hj⟩ : ∃ j, q = n + j := ⟨q - n, by omega⟩
      have hj2 : (q : Int) - (n : Int) = (j : Int) := by omega
      by_cases hlt2 : n < q
      · have hd3 : decide ((n : Int) < (q : Int)) = true := by simp; omega
        have hd4 : decide (n < q) = true := by simp; omega
        have hj32 : j < 4294967296 := by omega
        have hn32 : n < 4294967296 := by omega
        have HTn : Hid ((lt ++ [(⟨⟨2, n, j, []⟩, none, 0⟩ : Im)] ++ [(⟨⟨1, q, 0, evs⟩, aoE, capE⟩ : Im)]).map Im.it ++ toldL (q + 1) ((lf.drop (k + 1)).map Fm.f) = F0) := Lib.hid (by
          rw [← ht]
          unfold tells
          rw [if_pos hlt2, show q - n = j by omega]
          simp)
        clear ht hri hri2 hdr HT HRi fok hj
        go_wp2_with (at_builtin; refine wpList_append_im rfl _ _ rfl D D _ _ rfl lt [⟨⟨2, n, j, []⟩, none, 0⟩] ?_ ?_ rfl ?_ (by simp; omega) ?_)
        · exact World.ownsRow.alloc P.out.own.row _
        · have := P.out.hD; simp; omega
        · exact im_lit wr D ⟨⟨2, n, j, []⟩, none, 0⟩ P.out.hD
        · intro a5 p5 w5 r5 g5
          have T5 := Lib.hid (P.out.app (out' := .slice a5 (lt.length + 1) p5) ⟨⟨2, n, j, []⟩, none, 0⟩ (imOk_gap B wr n j) (by simpa using r5) g5)
          have I5 := Lib.hid (P.out.keep _ IM.out g5)
          clear r5 g5 P IM c0 c1
          obtain ⟨gz, hgz, k0, k1⟩ := T5.out.fr.at k hk1
          cases hgz
          rw [hmm] at k0 k1
          simp only at k0 k1
          go_wp2_with fail
          have TD := Lib.hid (T5.out.below (below_drewN (Below.refl _ _) 1))
          have ID := Lib.hid (imOk_drewN I5.out 1)
          have HX1 := Lib.hid (World.ownsRow.alloc TD.out.own.row (imO ⟨⟨1, q, 0, evs⟩, aoE, capE⟩))
          have HX2 := Lib.hid (show D ≤ ((w5.drewN 1).alloc (imO ⟨⟨1, q, 0, evs⟩, aoE, capE⟩)).heap.size by have := TD.out.hD; simp; simp at this; omega)
          have HX3 := Lib.hid (im_lit (w5.drewN 1) D ⟨⟨1, q, 0, evs⟩, aoE, capE⟩ TD.out.hD)
          obtain ⟨gx, hgx, c0, c1⟩ := T5.out.fr.at k hk1
          cases hgx
          rw [hmm] at c0 c1
          simp only at c0 c1
          clear T5 I5
          go_region_law ((refine step_append_im rfl (.tmp 36) (.tmp 48) rfl D D (.slice a5 (lt.length + 1) p5) (.slice (some ⟨w5.heap.size, 0, none⟩) 1 1) rfl (lt ++ [⟨⟨2, n, j, []⟩, none, 0⟩]) [⟨⟨1, q, 0, evs⟩, aoE, capE⟩] ?_ ?_ rfl ?_ ?_ ?_); (exact HX1.out); (exact HX2.out); (exact HX3.out); (simp; omega); (intro a6 p6 w6 r6 g6); (have T6 := Lib.hid (TD.out.app (out' := .slice a6 (lt.length + 1 + 1) p6) ⟨⟨1, q, 0, evs⟩, aoE, capE⟩ ID.out (by simpa using r6) g6)); (obtain ⟨gy, hgy, e0, e1⟩ := T6.out.fr.at k hk1); (cases hgy); (rw [hmm] at e0 e1); (simp only at e0 e1); (clear r6 g6 c0 c1 HX1 HX2 HX3 TD ID))
          all_goals
            go_wp2_with fail
            go_roundw
            case rel => exact ⟨k + 1, q + 1, (lt ++ [⟨⟨2, n, j, []⟩, none, 0⟩]) ++ [⟨⟨1, q, 0, evs⟩, aoE, capE⟩], by omega, by go_num, by go_num, T6, HTn, HR2, by omega, by simp; omega⟩
            case measure => simp [intOf]; omega
      · have hd3 : decide ((n : Int) < (q : Int)) = false := by simp; omega
        have hd4 : decide (n < q) = false := by simp; omega
        have HTn : Hid ((lt ++ [(⟨⟨1, q, 0, evs⟩, aoE, capE⟩ : Im)]).map Im.it ++ toldL (q + 1) ((lf.drop (k + 1)).map Fm.f) = F0) := Lib.hid (by
          rw [← ht]
          unfold tells
          rw [if_neg hlt2]
          simp)
        clear ht hri hri2 hdr HT HRi fok hj
        go_wp2_with fail
        have TD := Lib.hid (P.out.below (below_drewN (Below.refl _ _) 1))
        have ID := Lib.hid (imOk_drewN IM.out 1)
        have HX1 := Lib.hid (World.ownsRow.alloc TD.out.own.row (imO ⟨⟨1, q, 0, evs⟩, aoE, capE⟩))
        have HX2 := Lib.hid (show D ≤ ((wr.drewN 1).alloc (imO ⟨⟨1, q, 0, evs⟩, aoE, capE⟩)).heap.size by have := TD.out.hD; simp; simp at this; omega)
        have HX3 := Lib.hid (im_lit (wr.drewN 1) D ⟨⟨1, q, 0, evs⟩, aoE, capE⟩ TD.out.hD)
        obtain ⟨gx, hgx, c0, c1⟩ := P.out.fr.at k hk1
        cases hgx
        rw [hmm] at c0 c1
        simp only at c0 c1
        clear P IM
        go_region_law ((refine step_append_im rfl (.tmp 36) (.tmp 48) rfl D D (.slice a3 (lt.length) p3) (.slice (some ⟨wr.heap.size, 0, none⟩) 1 1) rfl lt [⟨⟨1, q, 0, evs⟩, aoE, capE⟩] ?_ ?_ rfl ?_ ?_ ?_); (exact HX1.out); (exact HX2.out); (exact HX3.out); (simp; omega); (intro a6 p6 w6 r6 g6); (have T6 := Lib.hid (TD.out.app (out' := .slice a6 (lt.length + 1) p6) ⟨⟨1, q, 0, evs⟩, aoE, capE⟩ ID.out (by simpa using r6) g6)); (obtain ⟨gy, hgy, e0, e1⟩ := T6.out.fr.at k hk1); (cases hgy); (rw [hmm] at e0 e1); (simp only at e0 e1); (clear r6 g6 c0 c1 HX1 HX2 HX3 TD ID))
        all_goals
          go_wp2_with fail
          go_roundw
          case rel => exact ⟨k + 1, q + 1, lt ++ [⟨⟨1, q, 0, evs⟩, aoE, capE⟩], by omega, by go_num, by go_num, T6, HTn, HR2, by omega, by simp; omega⟩
          case measure => simp [intOf]; omega
    · have hd1 : decide ((k : Int) < (N : Int)) = false := by simp; omega
      have hd2 : decide (k < N) = false := by simp; omega
      have hnI : ¬ ((k : Int) < (N : Int)) := by omega
      have hdr : (lf.drop k).map Fm.f = [] := by rw [List.drop_of_length_le (by rw [HN.out]; omega)]; rfl
      have HE : Hid (lt.map Im.it = F0) := Lib.hid (by have := HT.out; rw [hdr] at this; simpa [toldL] using this)
      go_wp2_with fail
      go_ret
      exact ⟨a3, p3, lt, rfl, P.out.own, HE.out, P.out.fr, P.out.bel⟩

end Go.Proofs.YtobioiicbdhboaaDoor

namespace Go.Proofs.YtobioiicbdhboaaDoor
open Go.RowKit
set_option linter.unusedVariables false
set_option linter.unusedSimpArgs false

/-- Fed once, what is told is the row itself. -/
theorem run9_first {w W : World} {B b t : Nat} (h : HB w W B b t (.slice none 0 0) hs0 false) (hV : 0 < B) (X : ByteArray) (hX : X.size ≤ 4000000) (hX' : X.size ≤ 100000) :
    Calls Tryd.prog 13 #[.pointer (some ⟨b, 0, none⟩), .string X] W fun r w' => ∃ (vg : Option Addr) (lg : List Im) (cp : Nat) (v' : Value), r = .returned (.slice vg lg.length cp) ∧ Run9 w w' B W.heap.size b t v' (.slice vg lg.length cp) lg X.data.toList ∧ Only W w' (fun k => k = b) := by
  refine (hfeed_foot h.hu h.le h.evl hV rfl (.inl rfl) X (by show ([] : List UInt8).length + _ ≤ _; simpa using hX') (by decide) (by decide) (by decide)).mono ?_
  rintro r w' ⟨vt, l, v', rfl, o, hu, m1, g⟩
  obtain ⟨vg, cp, rfl⟩ := o.shape
  have g' : Only W w' (fun k => k = b) := g.mono fun k _ e => e.elim id (fun e => by cases e)
  have hf : Only W w' (HF False B b W) := g'.mono fun k _ e => ⟨by rw [e]; exact h.hu.base, .inl e⟩
  have hb := h.fed hV hu hf
  have e : (hs0.more X.data.toList).go false = fedS X.data.toList := rfl
  rw [e] at hb m1
  exact ⟨vg, l, cp, v', rfl, ⟨⟨hb.hu.mute, hb.evl, hb.bel, hb.le⟩, o, h.le, g.size, m1, hV⟩, g'⟩
/-- It is closed, where more was fed. -/
theorem Run9.shut {w wr : World} {B C b t : Nat} {v va : Value} {la : List Im} {L : List UInt8} (h : Run9 w wr B C b t v va la L) (hX : L.length ≤ 20000) :
    Calls Tryd.prog 14 #[.pointer (some ⟨b, 0, none⟩)] wr fun r w' => ∃ (vg : Option Addr) (lg : List Im) (cp : Nat) (v' : Value), r = .returned (.slice vg lg.length cp) ∧ w'.ownsRow 0 44 4 (.slice vg lg.length cp) lg.length (imRow lg) ∧
      w'.ownsRow C 44 4 va la.length (imRow la) ∧ C ≤ w'.heap.size ∧ la.length + lg.length ≤ 100000 ∧ Only wr w' (fun k => k = b) ∧ OwnI B C w' va la ∧
      ∀ va' w'', w''.ownsRow C 44 4 va' (la ++ lg).length (imRow (la ++ lg)) → w'.grownBy w'' va.ownBlock → HB w w'' B b t v' (shutS L).mute true ∧ OwnI B C w'' va' (la ++ lg) ∧ (la ++ lg).map Im.it = (shutS L).told := by
  have bd := fed_bounds L
  have hm := shut_fed L
  refine (hclose_any h.hb.hu h.hb.le h.hb.evl h.hV rfl (by show (fedS L).rest.length ≤ _; omega) bd.1 (by show (fedS L).skip ≤ _; omega) (by show (fedS L).lost ≤ _; omega)).mono ?_
  rintro r w' ⟨vt, l, v', rfl, o, hu, m1, g⟩
  obtain ⟨vg, cp, rfl⟩ := o.shape
  have hown := h.own.hf h.hb.hu.tag g
  have hbn := h.hb.fed h.hV hu g
  have hlen : la.length + l.length ≤ 100000 := by
    have e1 : la.length = (fedS L).told.length := by rw [← h.tl]; simp
    have e2 : l.length = (((fedS L).mute.go true).told).length := by rw [← m1]; simp
    have e3 := (HS.go_small true (fedS L).mute bd.1).2.2.2.2
    have e4 : (fedS L).mute.rest.length = (fedS L).rest.length := rfl
    have e5 : (fedS L).mute.told.length = 0 := rfl
    omega
  refine ⟨vg, l, cp, v', rfl, (o.base (Nat.zero_le _)).row, hown.row, Nat.le_trans h.hC g.size, hlen, g.mono (fun k _ e => e.2.elim id (fun e => e.1.elim)), hown, fun va' w'' hr hg => ⟨?_, hown.app (C2 := 0) (vx := .slice none 0 0) o.ok h.hBC hr hg, by rw [List.map_append, h.tl, m1, hm.1]⟩⟩
  rw [hm.2]
  have := hbn.items h.hV hown h.hBC hg
  exact ⟨this.hu.mute, this.evl, this.bel, this.le⟩

/-- Frames stay where a hunter is fed. -/
theorem OwnF.hunter {W W' : World} {B C b : Nat} {v : Value} {l : List Fm} (h : OwnF B C W v l) (hB : B ≤ W.heap.size) (hb : Tag W b 60) (hBb : B ≤ b) (ho : Only W W' (fun k => k = b)) : OwnF B C W' v l :=
  h.only hB ho (fun k e => by rw [e]; exact hBb) (fun k e hk => by rw [e] at hk; exact (h.tag hk).2.ne hb (by decide) rfl)
/-- .. and where items are appended. -/
theorem OwnF.items {W W' : World} {B C D : Nat} {v va : Value} {l : List Fm} {la : List Im} (h : OwnF B C W v l) (hB : B ≤ W.heap.size) (ho : OwnI B D W va la) (hBD : B ≤ D) (hg : W.grownBy W' va.ownBlock) : OwnF B C W' v l :=
  h.only hB (Only.of_grown hg (fun k e => e)) (fun k e => Nat.le_trans hBD (ho.tag e).1) (fun k e hk => (ho.tag e).2.ne (h.tag hk).2 (by decide) rfl)

/-- What rising left stays where frames are appended to another row. -/
theorem RI.left {B C C3 : Nat} {W wr w6 : World} {va vt vl : Value} {lf ll : List Fm} {n : Nat} (h : RI B C W wr va vt lf n) (ho : OwnF B C3 wr vl ll) (hCC : C ≤ C3) (hlt : ∀ k, va.ownBlock = some k → k < C3) (o : Obj) (hg : (wr.alloc o).grownBy w6 vl.ownBlock) : RI B C W w6 va vt lf n := by
  have o6 : Only wr w6 (fun k => vl.ownBlock = some k) := (Only.alloc wr o _).trans (Only.of_grown hg (fun k e => e)) (fun _ _ e => e)
  have hb := o6.below h.hC (fun k e => Nat.le_trans hCC (ho.tag e).1)
  refine ⟨h.fr.only (Nat.le_trans h.hBC h.hC) o6 (fun k e => Nat.le_trans h.hBC (Nat.le_trans hCC (ho.tag e).1)) (fun k e hk => ?_), h.tx.only o6 (fun k e hk => (ho.tag e).2.ne (h.tx.tag hk).2 (by decide) rfl), h.rise, h.bel.trans hb, Nat.le_trans h.hC o6.size, h.hBC, h.nb, h.len⟩
  have h1 := (ho.tag e).1
  have h2 := hlt k hk
  omega
theorem left_below {B C3 : Nat} {wr w6 : World} {vl : Value} {ll : List Fm} (ho : OwnF B C3 wr vl ll) (hBC : B ≤ C3) (hB : B ≤ wr.heap.size) (o : Obj) (hg : (wr.alloc o).grownBy w6 vl.ownBlock) : Below B wr w6 := by
  have o6 : Only wr w6 (fun k => vl.ownBlock = some k) := (Only.alloc wr o _).trans (Only.of_grown hg (fun k e => e)) (fun _ _ e => e)
  exact o6.below hB (fun k e => Nat.le_trans hBC (ho.tag e).1)

/-- The frames that have all their bytes, as they lie in memory. -/
def keptM : List Fm → List UInt8 → List Fm
  | [], _ => []
  | m :: l, t => if t.take m.f.text.length = m.f.text then m :: keptM l (t.drop m.f.text.length) else keptM l (t.drop m.f.text.length)
theorem keptM_map : ∀ (l : List Fm) (t : List UInt8), (keptM l t).map Fm.f = keptL (l.map Fm.f) t
  | [], t => rfl
  | m :: l, t => by
    rw [keptM, List.map_cons, keptL]
    split
    · rw [List.map_cons, keptM_map l]
    · exact keptM_map l _
theorem keptM_len : ∀ (l : List Fm) (t : List UInt8), (keptM l t).length ≤ l.length
  | [], t => Nat.le_refl _
  | m :: l, t => by
    rw [keptM]
    have := keptM_len l (t.drop m.f.text.length)
    split
    · simp; omega
    · simp; omega
theorem rise_kept : ∀ (F : List Fr) (t : List UInt8) (n : Nat), Rise n F → Rise n (keptL F t)
  | [], t, n, h => trivial
  | f :: F, t, n, h => by
    rw [keptL]
    split
    · exact ⟨h.1, h.2.1, rise_kept F _ _ h.2.2⟩
    · exact (rise_kept F _ _ h.2.2).mono (by have := h.1; omega)
theorem rise_ok : ∀ {F : List Fr} {n : Nat}, Rise n F → ∀ f ∈ F, f.Ok
  | [], _, _, f, hf => by cases hf
  | g :: F, _, h, f, hf => by
    rcases List.mem_cons.1 hf with rfl | hf
    · exact h.2.1
    · exact rise_ok h.2.2 f hf
theorem catF_len : ∀ (F : List Fr) (n : Nat), Rise n F → (catF F).length ≤ 179 * F.length
  | [], n, h => by simp [catF]
  | f :: F, n, h => by
    rw [catF_cons, List.length_append, List.length_cons]
    have := catF_len F _ h.2.2
    have := h.2.1.len
    omega
theorem catF_append (F G : List Fr) : catF (F ++ G) = catF F ++ catF G := by unfold catF; exact List.flatMap_append
/-- What is told behind a burst. -/
theorem shut_burst {F : List Fr} (hr : Rise 0 F) {t : List UInt8} {a p : Nat} (hp : p < 4294967296) (hl : t.length = (catF F).length) (ht : num t = num (catF F) ^^^ burst a p (8 * (catF F).length)) : (shutS t).told = toldL 0 (keptL F t) := by
  obtain ⟨h1, h2⟩ := near_burst hp hl ht
  have := HS.go_burst F t (a / 8) 0 [] 0 0 hr h1 h2
  rw [List.nil_append] at this
  exact this
/-- What is told of frames among other bytes. -/
theorem shut_weave {J : List (List UInt8)} {F : List Fr} (hj : ∀ j ∈ J, ∀ b ∈ j, b ≠ 255) (hr : Rise 0 F) : (shutS (weave J F)).told = toldL 0 F := by
  have := HS.go_weave J F [] 0 0 0 hj hr
  rw [List.nil_append] at this
  exact this

end Go.Proofs.YtobioiicbdhboaaDoor
