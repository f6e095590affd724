/-
  Slices whose elements take some cells each, in general: what a walk is told of one that came in, of a row of one's own, of a store into it, of a copy by append. Nothing of the translation's functions is named here. No condition.
-/
import Derived.Test.YteglnlhdgfpglaaFoot
import Derived.Test.YteglnlhdgfpglaaBase
import Derived.Laws.OwnMore
import Derived.Laws.AppendOwnNone
import Derived.Deep.Slices
import Derived.Deep.Grids
import Derived.OpenShut
import Derived.HandedShaped
namespace Go.Proofs.Yteglnlhdgfpglaa
open Go Go.ChangeShapes Go.WideShapes Go.ChangeAt Go.RowKit
set_option linter.unusedVariables false
set_option linter.unusedSimpArgs false

/-- A function of one result that lies in a block. -/
theorem results_cell1 {fn : Func} {p : Tmp} {ty : TypeId} (h : fn.results = #[.cell p ty]) (tmps : Array Value) (P : Program) (w : World) :
    (results fn tmps).run P w = ((asAddr (tmps.getD p undef)).run P w).andThen fun a w₁ => (loadVar ty a).run P w₁ := by
  simp only [results, h]
  simp [Sem.run_bind, Result.andThen]

/-- A block's cells stored one by one, from a place on. -/
def stN (w : World) (D : Nat) : Nat → List Value → World
  | _, [] => w
  | o, v :: r => stN (w.setCell ⟨D, o, none⟩ v) D (o + 1) r
def setsA (cs : Array Value) : Nat → List Value → Array Value
  | _, [] => cs
  | o, v :: r => setsA (cs.setIfInBounds o v) (o + 1) r
theorem stN_block {D : Nat} {ty : TypeId} : ∀ (vs : List Value) (w : World) (o : Nat) (cs : Array Value), w.heap[D]? = some (.cells cs ty (0, 0)) → (stN w D o vs).heap[D]? = some (.cells (setsA cs o vs) ty (0, 0))
  | [], _, _, _, h => h
  | v :: r, w, o, cs, h => stN_block r _ (o + 1) _ (heap_setCell_same w D o cs ty v h)
theorem stN_only {D : Nat} : ∀ (vs : List Value) (w : World) (o : Nat), Only w (stN w D o vs) (fun k => k = D)
  | [], w, _ => Only.refl _ _
  | v :: r, w, o => (Only.setCell w D o v (fun k => k = D) rfl).trans (stN_only r _ (o + 1)) (fun _ _ h => h)
theorem stN_below {w0 w : World} {B D : Nat} (h : Below B w0 w) (hD : B ≤ D) (vs : List Value) (o : Nat) (hB : B ≤ w.heap.size) : Below B w0 (stN w D o vs) := by
  have g := stN_only (D := D) vs w o
  exact ⟨g.os.trans h.os, g.tape.trans h.tape, g.output.trans h.output, Nat.le_trans h.size g.size, fun k hk => (g.block k (by omega) (by omega)).trans (h.block k hk)⟩
theorem frozen_row {w : World} {D : Nat} {cs : Array Value} {ty : TypeId} (h : w.heap[D]? = some (.cells cs ty (0, 0))) (j : Nat) : w.frozen? ⟨D, j, none⟩ = false := frozen_of_row w D j cs ty h

/-- A slice over rows of n cells. -/
structure SeenR {α : Type} (n : Nat) (f : α → List Value) (w : World) (ao : Option Addr) (cap : Nat) (l : List α) : Prop where
  mx : l.length ≤ maxLen
  lc : l.length ≤ cap
  nn : ao = none → l = [] ∧ cap = 0
  row : ∀ i, i < l.length → ∃ b off, ao = some ⟨b, off, none⟩ ∧ b < w.heap.size ∧ ∀ j (hj : j < l.length), ∀ d, d < n → w.cell? ⟨b, off + j * n + d, none⟩ = (f l[j])[d]?

section
variable {α : Type} {n : Nat} {f : α → List Value} {w w1 : World} {ao : Option Addr} {cap : Nat} {l : List α}
theorem seenR_nil : SeenR n f w none 0 ([] : List α) := ⟨by simp, by simp, fun _ => ⟨rfl, rfl⟩, fun i hi => by simp at hi⟩
theorem SeenR.only {S : Nat → Prop} (h : SeenR n f w ao cap l) (ho : Only w w1 S) (hS : ∀ x, ao = some x → ¬ S x.block) : SeenR n f w1 ao cap l := by
  refine ⟨h.mx, h.lc, h.nn, fun i hi => ?_⟩
  obtain ⟨b, off, h1, h2, h3⟩ := h.row i hi
  exact ⟨b, off, h1, by have := ho.size; omega, fun j hj d hd => (World.cell?_of_block (w := w) (a := ⟨b, _, none⟩) (ho.block b h2 (hS _ h1))).trans (h3 j hj d hd)⟩
theorem SeenR.below (h : SeenR n f w ao cap l) (hb : Below w.heap.size w w1) : SeenR n f w1 ao cap l := h.only (Only.of_below hb (fun _ => False)) (fun _ _ e => e)
theorem SeenR.belowB {B : Nat} (h : SeenR n f w ao cap l) (hb : Below B w w1) (hB : ∀ x, ao = some x → x.block < B) : SeenR n f w1 ao cap l :=
  h.only (S := fun k => B ≤ k) ⟨hb.os, hb.tape, hb.output, hb.size, fun k _ hn => hb.block k (by simpa using hn)⟩ (fun x hx => by have := hB x hx; omega)
theorem SeenR.at (h : SeenR n f w ao cap l) (i : Nat) (hi : i < l.length) : ∃ b off, ao = some ⟨b, off, none⟩ ∧ b < w.heap.size ∧ ∀ d, d < n → w.cell? ⟨b, off + i * n + d, none⟩ = (f l[i])[d]? := by
  obtain ⟨b, off, h1, h2, h3⟩ := h.row i hi
  exact ⟨b, off, h1, h2, h3 i hi⟩
theorem SeenR.take (h : SeenR n f w ao cap l) (k : Nat) : SeenR n f w ao cap (l.take k) := by
  refine ⟨by have := h.mx; simp; omega, by have := h.lc; simp; omega, fun e => ⟨by rw [(h.nn e).1]; simp, (h.nn e).2⟩, fun i hi => ?_⟩
  simp only [List.length_take] at hi
  obtain ⟨b, off, h1, h2, h3⟩ := h.row i (by omega)
  refine ⟨b, off, h1, h2, fun j hj d hd => ?_⟩
  simp only [List.length_take] at hj
  rw [List.getElem_take]
  exact h3 j (by omega) d hd
theorem SeenR.lt (h : SeenR n f w ao cap l) (hl : 0 < l.length) : ∀ x, ao = some x → x.block < w.heap.size := by
  intro x hx
  obtain ⟨b, off, h1, h2, -⟩ := h.row 0 hl
  rw [h1] at hx; cases hx; exact h2
theorem SeenR.drewN (h : SeenR n f w ao cap l) (k : Nat) : SeenR n f (w.drewN k) ao cap l := h.below ⟨rfl, rfl, rfl, Nat.le_refl _, fun _ _ => rfl⟩
theorem SeenR.drew (h : SeenR n f w ao cap l) : SeenR n f w.drew ao cap l := h.below ⟨rfl, rfl, rfl, Nat.le_refl _, fun _ _ => rfl⟩
/-- The same cells, said of other elements. -/
theorem SeenR.as {β : Type} {g : β → List Value} {m : List β} (h : SeenR n f w ao cap l) (hlen : m.length = l.length) (he : ∀ i (hi : i < l.length) (hi' : i < m.length), g m[i] = f l[i]) : SeenR n g w ao cap m := by
  refine ⟨by rw [hlen]; exact h.mx, by rw [hlen]; exact h.lc, fun e => ⟨List.eq_nil_of_length_eq_zero (by rw [hlen, (h.nn e).1]; rfl), (h.nn e).2⟩, fun i hi => ?_⟩
  obtain ⟨b, off, h1, h2, h3⟩ := h.row i (by omega)
  exact ⟨b, off, h1, h2, fun j hj d hd => by rw [he j (by omega) hj]; exact h3 j (by omega) d hd⟩
end

/-! ### Rows of one's own -/

theorem flat_len {α : Type} {n : Nat} {f : α → List Value} (hf : ∀ x, (f x).length = n) (l : List α) : (l.flatMap f).length = l.length * n := by
  induction l with
  | nil => simp
  | cons e l ih => rw [List.flatMap_cons, List.length_append, ih, hf, List.length_cons, Nat.succ_mul, Nat.add_comm]
theorem flat_at {α : Type} {n : Nat} {f : α → List Value} (hf : ∀ x, (f x).length = n) : ∀ (l : List α) (i : Nat) (h : i < l.length) (j : Nat), j < n → (l.flatMap f)[i * n + j]? = (f l[i])[j]?
  | e :: l, 0, h, j, hj => by
    rw [List.flatMap_cons, Nat.zero_mul, Nat.zero_add, List.getElem?_append_left (by rw [hf]; exact hj)]
    rfl
  | e :: l, i + 1, h, j, hj => by
    have e3 : (i + 1) * n + j - n = i * n + j := by rw [Nat.succ_mul]; omega
    rw [List.flatMap_cons, List.getElem?_append_right (by rw [hf, Nat.succ_mul]; omega), hf, e3, flat_at hf l i (by simpa using h) j hj]
    rfl
theorem flat_set {α : Type} {n : Nat} {f : α → List Value} (hf : ∀ x, (f x).length = n) (l : List α) (i : Nat) (h : i < l.length) (j : Nat) (hj : j < n) (u : Value) (y : α) (hy : f y = (f l[i]).set j u) :
    (l.flatMap f).set (i * n + j) u = (l.set i y).flatMap f := by
  apply List.ext_getElem?
  intro k
  by_cases hk : k < l.length * n
  · have hn : 0 < n := by omega
    have hq : k / n < l.length := Nat.div_lt_of_lt_mul (by rw [Nat.mul_comm]; exact hk)
    have hr : k % n < n := Nat.mod_lt _ hn
    have hke : k = k / n * n + k % n := by rw [Nat.mul_comm]; exact (Nat.div_add_mod k n).symm
    rw [List.getElem?_set]
    generalize k / n = q at *
    generalize k % n = r at *
    subst hke
    rw [flat_at hf (l.set i y) q (by simpa using hq) r hr, flat_at hf l q hq r hr]
    have hlen : i * n + j < (l.flatMap f).length := by
      rw [flat_len hf]
      have := Nat.mul_le_mul_right n (show i + 1 ≤ l.length by omega)
      rw [Nat.succ_mul] at this; omega
    by_cases hqi : q = i
    · subst hqi
      rw [List.getElem_set_self, hy, List.getElem?_set]
      by_cases hrj : j = r
      · subst hrj
        rw [if_pos rfl, if_pos rfl, if_pos hlen, if_pos (by rw [hf]; exact hj)]
      · rw [if_neg (by omega), if_neg hrj]
    · rw [if_neg ?_, List.getElem_set_ne (by omega)]
      intro e
      rcases Nat.lt_or_ge q i with h1 | h1
      · have := Nat.mul_le_mul_right n (show q + 1 ≤ i by omega)
        rw [Nat.succ_mul] at this; omega
      · have := Nat.mul_le_mul_right n (show i + 1 ≤ q by omega)
        rw [Nat.succ_mul] at this; omega
  · rw [List.getElem?_eq_none (by rw [List.length_set, flat_len hf]; omega), List.getElem?_eq_none (by rw [flat_len hf, List.length_set]; omega)]

/-- A row of one's own. -/
def OwnR {α : Type} (ty : TypeId) (n : Nat) (f : α → List Value) (w : World) (B : Nat) (v : Value) (l : List α) : Prop := w.ownsRow B ty n v l.length (l.flatMap f)

section
variable {α : Type} {ty : TypeId} {n : Nat} {f : α → List Value} {w w1 : World} {B : Nat} {v : Value} {l : List α}
theorem ownR_nil : OwnR ty n f w B (.slice none 0 0) ([] : List α) := World.ownsRow_nil _ _ _ _
theorem OwnR.shape (h : OwnR ty n f w B v l) : ∃ ao cap, v = .slice ao l.length cap := own_slice' h
theorem OwnR.seen (hf : ∀ x, (f x).length = n) (h : OwnR ty n f w B v l) : ∃ ao cap, v = .slice ao l.length cap ∧ SeenR n f w ao cap l ∧ (∀ x, ao = some x → B ≤ x.block ∧ x.block < w.heap.size ∧ v.ownBlock = some x.block ∧ x = ⟨x.block, 0, none⟩) := by
  have hown : w.ownsRow B ty n v l.length (l.flatMap f) := h
  have hlt := hown.lt
  rcases hown.2 with ⟨rfl, hn⟩ | ⟨g, cap, cur, rfl, hb, hg, hc, hm, hs, ht⟩
  · have : l = [] := List.eq_nil_of_length_eq_zero hn
    exact ⟨none, 0, by rw [hn], ⟨by rw [hn]; simp, by omega, fun _ => ⟨this, rfl⟩, fun i hi => by omega⟩, fun x hx => by cases hx⟩
  · refine ⟨_, cap, rfl, ⟨by omega, hc, (fun h => by cases h), fun i hi => ⟨g, 0, rfl, lt_of_block hg, fun j hj d hd => ?_⟩⟩, fun x hx => by cases hx; exact ⟨hb, lt_of_block hg, rfl, rfl⟩⟩
    have hlt : j * n + d < l.length * n := by
      have := Nat.mul_le_mul_right n (show j + 1 ≤ l.length by omega)
      rw [Nat.succ_mul] at this; omega
    rw [Nat.zero_add, hown.cellAt (j * n + d) hlt, flat_at hf l j hj d hd]
theorem OwnR.only {S : Nat → Prop} (h : OwnR ty n f w B v l) (ho : Only w w1 S) (hn : ∀ k, v.ownBlock = some k → ¬ S k) : OwnR ty n f w1 B v l := row_only h ho hn
theorem OwnR.below (h : OwnR ty n f w B v l) (hb : Below w.heap.size w w1) : OwnR ty n f w1 B v l := row_only h (Only.of_below hb (fun _ => False)) (fun _ _ e => e)
theorem OwnR.mono {C : Nat} (h : OwnR ty n f w B v l) (hC : C ≤ B) : OwnR ty n f w C v l := row_base h (fun k hk => by have := (World.ownsRow.lt h k hk).1; omega)
theorem OwnR.lt (h : OwnR ty n f w B v l) : ∀ k, v.ownBlock = some k → B ≤ k ∧ k < w.heap.size := World.ownsRow.lt h
/-- The block's type. -/
theorem OwnR.kind {k : Nat} (h : OwnR ty n f w B v l) (hk : v.ownBlock = some k) : ∃ cs, w.heap[k]? = some (.cells cs ty (0, 0)) := by
  have hown : w.ownsRow B ty n v l.length (l.flatMap f) := h
  rcases hown.2 with ⟨rfl, hn⟩ | ⟨g, cap, cur, rfl, hb, hg, -⟩
  · cases hk
  · cases hk; exact ⟨_, hg⟩
/-- A store into the i-th element. -/
theorem OwnR.len {m cap : Nat} {ao : Option Addr} (h : OwnR ty n f w B (.slice ao m cap) l) : m = l.length := by
  obtain ⟨ao', cap', e⟩ := h.shape
  cases e; rfl
theorem OwnR.set {g cap m : Nat} (hf : ∀ x, (f x).length = n) (h : OwnR ty n f w B (.slice (some ⟨g, 0, none⟩) m cap) l) (i : Nat) (hi : i < l.length) (j : Nat) (hj : j < n) (u : Value) (y : α) (hy : f y = (f l[i]).set j u) :
    OwnR ty n f (w.setCell ⟨g, i * n + j, none⟩ u) B (.slice (some ⟨g, 0, none⟩) m cap) (l.set i y) := by
  obtain rfl := h.len
  have hown : w.ownsRow B ty n (.slice (some ⟨g, 0, none⟩) l.length cap) l.length (l.flatMap f) := h
  have := (hown.stored (i * n + j) u).1
  rw [flat_set hf l i hi j hj u y hy] at this
  unfold OwnR
  rw [List.length_set]
  exact this
/-- A store anywhere in a block of the kind: the row holds as many elements as it did. -/
theorem OwnR.stored_any (hf : ∀ x, (f x).length = n) (h : OwnR ty n f w B v l) (b i d : Nat) (u : Value) (hd : d < n) (hrep : ∀ x, ∃ y, f y = (f x).set d u) :
    ∃ l', l'.length = l.length ∧ OwnR ty n f (w.setCell ⟨b, i * n + d, none⟩ u) B v l' := by
  by_cases hb : v.ownBlock = some b
  · obtain ⟨ao, cap, rfl⟩ := h.shape
    have hown : w.ownsRow B ty n (.slice ao l.length cap) l.length (l.flatMap f) := h
    rcases hown.2 with ⟨e, -⟩ | ⟨g, cap', cur, e, -⟩
    · obtain ⟨rfl, -, -⟩ := (by simpa using e : ao = none ∧ _ ∧ _)
      cases hb
    · obtain ⟨rfl, rfl⟩ := (by simpa using e : ao = some ⟨g, 0, none⟩ ∧ cap = cap')
      obtain rfl : g = b := Option.some.inj hb
      by_cases hi : i < l.length
      · obtain ⟨y, hy⟩ := hrep l[i]
        exact ⟨l.set i y, by simp, h.set hf i hi d hd u y hy⟩
      · refine ⟨l, rfl, ?_⟩
        have := (hown.stored (i * n + d) u).1
        rw [List.set_eq_of_length_le (by rw [flat_len hf]; have := Nat.mul_le_mul_right n (Nat.le_of_not_lt hi); omega)] at this
        exact this
  · refine ⟨l, rfl, h.only (Only.setCell w b (i * n + d) u (fun k => k = b) rfl) (fun k hk e => hb (by rw [hk, e]))⟩
/-- What stands there, for append. -/
theorem SeenR.seg {a : Addr} {cap : Nat} (hf : ∀ x, (f x).length = n) (h : SeenR n f w (some a) cap l) : ∀ j u, (l.flatMap f)[j]? = some u → w.cell? (a.add j) = some u := by
  intro j u hj
  have hlt : j < l.length * n := by rw [← flat_len hf]; exact (List.getElem?_eq_some_iff.1 hj).1
  have hn : 0 < n := by
    rcases Nat.eq_zero_or_pos n with rfl | h
    · omega
    · exact h
  have hq : j / n < l.length := Nat.div_lt_of_lt_mul (by rw [Nat.mul_comm]; exact hlt)
  have hr : j % n < n := Nat.mod_lt _ hn
  obtain ⟨b, off, h1, h2, h3⟩ := h.row (j / n) hq
  cases h1
  have ha : ∀ o j, (⟨b, o, none⟩ : Addr).add j = ⟨b, o + j, none⟩ := fun o j => by unfold Addr.add; split <;> simp_all
  rw [ha]
  have := h3 (j / n) hq (j % n) hr
  rw [← flat_at hf l (j / n) hq (j % n) hr, Nat.add_assoc, show j / n * n + j % n = j by rw [Nat.mul_comm]; exact Nat.div_add_mod j n] at this
  rw [this, hj]
end

/-- append([]T(nil), list...): a row of one's own with the same elements. -/
theorem wpList_copyR {α : Type} {ty sl : TypeId} {n bytes : Nat} {f : α → List Value} {z : Value} {i0 : TypeInfo} (hu : Try.prog.underlying sl = some (.slice ty)) (hi : Try.prog.info? ty = some i0) (hz0 : i0.zero = some z) (hz1 : i0.size = n) (hz2 : i0.bytes = bytes)
    (hzc : z.cells.size = n) (hn0 : 0 < n) (hf : ∀ x, (f x).length = n) (hfc : ∀ x, ∀ u ∈ f x, u.oneCell' = true)
    {w : World} {ops : Array Oper} {rest : List Oper} {o : Oper} {a : Act} {Q : Exit → Act → World → Prop} (hgd : o.guard = none) (s x : Operand)
    (ho : o.op = .call { callee := .builtin .append, args := #[s, x], argTypes := #[sl, sl] }) (hs : a.eval s = .slice none 0 0)
    (ao : Option Addr) (cap : Nat) (l : List α) (hx : a.eval x = .slice ao l.length cap) (hl : SeenR n f w ao cap l) (hb : l.length * bytes ≤ 140737488355328)
    (h : ∀ bo bc w', OwnR ty n f w' w.heap.size (.slice bo l.length bc) l → Below w.heap.size w w' → wpList Try.prog ops Q rest (a.put o.dst (.slice bo l.length bc)) w') : wpList Try.prog ops Q (o :: rest) a w := by
  have hbel : ∀ w', w.grownBy w' (Value.slice none 0 0).ownBlock → Below w.heap.size w w' := fun w' hg => ⟨hg.os, hg.tape, hg.output, hg.size, fun k hk => hg.block k hk (by simp [Value.ownBlock])⟩
  cases ao with
  | none =>
    obtain ⟨rfl, rfl⟩ := hl.nn rfl
    exact wpList_append_own_none hgd s x _ ho w.heap.size _ i0 n hu hi _ 0 [] hs (World.ownsRow_nil _ _ _ _) hx (h none 0 w (World.ownsRow_nil _ _ _ _) (Below.refl _ _))
  | some ad =>
    refine wpList_append_own _ hgd s x _ ho w.heap.size _ i0 _ n bytes hu hi hz0 hz1 hz2 hzc hn0 _ 0 [] hs (World.ownsRow_nil _ _ _ _) ad l.length cap (l.flatMap f) hx (flat_len hf l) (hl.seg hf)
      (fun u hu => by obtain ⟨e, _, h⟩ := List.mem_flatMap.1 hu; exact hfc e u h) (by have := hl.mx; omega) (by rw [Nat.zero_add]; exact hb) (Nat.le_refl _) ?_
    intro v' w' h1 h2 _
    rw [Nat.zero_add, List.nil_append] at h1
    obtain ⟨bo, bc, rfl⟩ := own_slice' h1
    exact h bo bc w' h1 (hbel w' h2)

/-! ### Out of the reading that the row gives -/

theorem open_rows {α : Type} {n : Nat} {f : α → List Value} {H : Type} {enc : TypeId × Value → H} {W : World} {sl ty : TypeId} (hu : Try.prog.underlying sl = some (.slice ty)) (hc : Try.prog.cellsOf ty = n) (hn : 0 < n) (hf : ∀ x, (f x).length = n) (Ok : α → Prop) (e0 : α) (ok0 : Ok e0)
    (hel : ∀ fuel cs x, DataW.trod enc Try.prog W 0 (fun _ => true) true fuel ty cs = some x → ∃ e, cs = f e ∧ Ok e)
    {ao : Option Addr} {len cap : Nat} {d : DataW H} {ps : List MemPlace} (h : DataW.Trod enc Try.prog W 0 (fun _ => true) true sl (.slice ao len cap) d ps) :
    ∃ l : List α, l.length = len ∧ SeenR n f W ao cap l ∧ ∀ e ∈ l, Ok e := by
  obtain ⟨fuel, hfu⟩ := h
  rcases Deep.open_slice hu hfu with ⟨hcs, _⟩ | ⟨x, ll, c, m, k, D, Pl, hcs, _, hl, hm, hmm, hx, hi⟩
  · simp [Value.cells] at hcs
    obtain ⟨rfl, rfl, rfl⟩ := hcs
    exact ⟨[], rfl, seenR_nil, by simp⟩
  · simp [Value.cells] at hcs
    obtain ⟨rfl, rfl, rfl⟩ := hcs
    simp only [if_true] at hmm
    subst hmm
    rw [hc] at hi
    have key : ∀ i, ∃ e : α, Ok e ∧ (i < m → ∀ j, j < n → W.cell? ((x.add (i * n)).add j) = (f e)[j]?) := by
      intro i
      by_cases him : i < m
      · obtain ⟨cs', hcc, ht⟩ := hi i him
        obtain ⟨e, rfl, hy⟩ := hel _ _ _ ht
        obtain ⟨_, _, hat⟩ := World.cells?_some hcc
        exact ⟨e, hy, fun _ j hj => hat j hj⟩
      · exact ⟨e0, ok0, fun h => absurd h him⟩
    obtain ⟨g, hg⟩ := Classical.axiomOfChoice key
    have hlen : ((List.range len).map g).length = len := by simp
    refine ⟨(List.range len).map g, hlen, ⟨by omega, by omega, (fun h => by cases h), fun i hil => ?_⟩, fun e he => ?_⟩
    · have h0 := (hg 0).2 (by omega) 0 hn
      have hsome : (f (g 0))[0]? ≠ none := by
        rw [List.getElem?_eq_getElem (by rw [hf]; exact hn)]; simp
      obtain ⟨b, o, sp⟩ := x
      cases sp with
      | some z =>
        exfalso
        apply hsome
        rw [← h0]
        simp [Addr.add, World.cell?]
        split <;> simp_all
      | none =>
        have ha : ∀ o j, (⟨b, o, none⟩ : Addr).add j = ⟨b, o + j, none⟩ := fun o j => by unfold Addr.add; split <;> simp_all
        simp only [ha] at hg h0
        obtain ⟨u, hu0⟩ : ∃ u, (f (g 0))[0]? = some u := Option.ne_none_iff_exists'.1 hsome
        rw [hu0] at h0
        refine ⟨b, o, rfl, World.block_lt_of_cell? W _ h0, fun j hj d hd => ?_⟩
        rw [show ((List.range len).map g)[j] = g j by simp]
        exact (hg j).2 (by omega) d hd
    · obtain ⟨i, _, rfl⟩ := List.mem_map.1 he
      exact (hg i).1

end Go.Proofs.Yteglnlhdgfpglaa
