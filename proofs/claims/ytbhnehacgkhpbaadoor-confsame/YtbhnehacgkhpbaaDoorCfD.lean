/-
  A copy of a system, over this seat's translation: the same, in rows of its own. Conditions: a system in memory, not more than the statements speak of.
-/
import Derived.Test.YtbhnehacgkhpbaaDoorCfC
import Derived.Test.YtbhnehacgkhpbaaDoorCfG
namespace Go.Proofs.YtbhnehacgkhpbaaDoor
open Go Go.RowKit
set_option linter.unusedVariables false
set_option linter.unusedSimpArgs false

/-- The cells of a system, by its five lists' values. -/
def cfW (a b c d e : Value) (mtx table : Int) (mask filter : Nat) (charge : Int) (cycle count : Nat) : Array Value := #[a, b, .int .i64 mtx, c, d, e, .int .i64 table, .int .u32 (mask : Int), .int .u32 (filter : Int), .int .i64 charge, .int .u64 (cycle : Int), .int .u64 (count : Int)]
theorem cfW_cells {w : World} {D : Nat} {a b c d e : Value} {mtx table : Int} {mask filter : Nat} {charge : Int} {cycle count : Nat} (h : w.heap[D]? = some (.cells (cfW a b c d e mtx table mask filter charge cycle count) 28)) :
    w.cell? ⟨D, 0, none⟩ = some a ∧ w.cell? ⟨D, 1, none⟩ = some b ∧ w.cell? ⟨D, 2, none⟩ = some (.int .i64 mtx) ∧ w.cell? ⟨D, 3, none⟩ = some c ∧ w.cell? ⟨D, 4, none⟩ = some d ∧ w.cell? ⟨D, 5, none⟩ = some e ∧
    w.cell? ⟨D, 6, none⟩ = some (.int .i64 table) ∧ w.cell? ⟨D, 7, none⟩ = some (.int .u32 (mask : Int)) ∧ w.cell? ⟨D, 8, none⟩ = some (.int .u32 (filter : Int)) ∧ w.cell? ⟨D, 9, none⟩ = some (.int .i64 charge) ∧
    w.cell? ⟨D, 10, none⟩ = some (.int .u64 (cycle : Int)) ∧ w.cell? ⟨D, 11, none⟩ = some (.int .u64 (count : Int)) := by
  refine ⟨?_, ?_, ?_, ?_, ?_, ?_, ?_, ?_, ?_, ?_, ?_, ?_⟩ <;> simp [World.cell?, h, cfW]

theorem getElem?_some_lt {α : Type} {l : List α} {i : Nat} {a : α} (h : l[i]? = some a) : i < l.length := (List.getElem?_eq_some_iff.1 h).1
theorem SeenI.only {w w1 : World} {ao : Option Addr} {cap : Nat} {l : List Ins} {S : Nat → Prop} (h : SeenI w ao cap l) (ho : Only w w1 S) (hS : ∀ x, ao = some x → l = [] ∨ ¬ S x.block) : SeenI w1 ao cap l := by
  refine ⟨h.mx, h.lc, h.nn, fun i hi => ?_⟩
  obtain ⟨b, off, h1, h2, h3⟩ := h.row i hi
  have hn : ¬ S b := by
    rcases hS _ h1 with rfl | h
    · simp at hi
    · exact h
  exact ⟨b, off, h1, by have := ho.size; omega, fun j hj => (h3 j hj).same (ho.block b h2 hn)⟩
theorem heap_set_ne {w : World} {g D j : Nat} {v : Value} (h : D ≠ g) : (w.setCell ⟨g, j, none⟩ v).heap[D]? = w.heap[D]? := heap_setCell_other w _ D v (by simpa using h)

/-- What stays where memory is made, or blocks of a kind are turned. -/
structure Keeps (ty : TypeId) (X : World → Prop) : Prop where
  below : ∀ w w1, Below w.heap.size w w1 → X w → X w1
  store : ∀ w g j v, Kind w g ty → X w → X (w.setCell ⟨g, j, none⟩ v)
theorem keeps_true (ty : TypeId) : Keeps ty (fun _ => True) := ⟨fun _ _ _ _ => trivial, fun _ _ _ _ _ _ => trivial⟩

/-! ### Tasks -/

/-- The same, while the i-th program is being copied. -/
def CmT (w : World) (B : Nat) (v : Value) (xs : List TskV) (i : Nat) : Prop :=
  ∃ l : List TskV, l.length = xs.length ∧ OwnTR w B v l ∧ ∀ j e y, l[j]? = some e → xs[j]? = some y → e.t = y.t ∧ (j < i → CodeT w B e) ∧ (i < j → e = y) ∧ (j = i → e = y ∨ CodeT w B e)
theorem CpT.mid {w : World} {B : Nat} {v : Value} {xs : List TskV} {i : Nat} (h : CpT w B v xs i) : CmT w B v xs i := by
  obtain ⟨l, hl, hr, ha⟩ := h
  refine ⟨l, hl, hr, fun j e y g1 g2 => ?_⟩
  obtain ⟨a1, a2, a3⟩ := ha j e y g1 g2
  exact ⟨a1, a2, fun h => a3 (by omega), fun h => .inl (a3 (by omega))⟩
theorem CpT.mid' {w : World} {B : Nat} {v : Value} {xs : List TskV} {i : Nat} (h : CpT w B v xs (i + 1)) : CmT w B v xs i := by
  obtain ⟨l, hl, hr, ha⟩ := h
  refine ⟨l, hl, hr, fun j e y g1 g2 => ?_⟩
  obtain ⟨a1, a2, a3⟩ := ha j e y g1 g2
  exact ⟨a1, fun h => a2 (by omega), fun h => a3 (by omega), fun h => .inr (a2 (by omega))⟩
theorem CmT.below {w w1 : World} {B : Nat} {v : Value} {xs : List TskV} {i : Nat} (h : CmT w B v xs i) (hb : Below w.heap.size w w1) : CmT w1 B v xs i := by
  obtain ⟨l, hl, hr, ha⟩ := h
  refine ⟨l, hl, hr.below hb, fun j e y g1 g2 => ?_⟩
  obtain ⟨a1, a2, a3, a4⟩ := ha j e y g1 g2
  exact ⟨a1, fun h => OwnR.below (a2 h) hb, a3, fun h => (a4 h).imp id (fun c => OwnR.below c hb)⟩
theorem CmT.base {w : World} {B m bc : Nat} {bo : Option Addr} {xs : List TskV} {i : Nat} (h : CmT w B (.slice bo m bc) xs i) (hi : 0 < xs.length) : ∃ g, bo = some ⟨g, 0, none⟩ ∧ m = xs.length ∧ B ≤ g ∧ g < w.heap.size ∧ Kind w g 39 := by
  obtain ⟨l, hl, hr, ha⟩ := h
  have hm := hr.len
  obtain ⟨ao, cap, e, s, hx⟩ := OwnR.seen tsk6_len hr
  cases e
  obtain ⟨b, off, h1, h2, -⟩ := s.row 0 (by omega)
  obtain ⟨k1, k2, k3, k4⟩ := hx _ h1
  simp only at k4
  obtain rfl : off = 0 := by simpa using k4
  exact ⟨b, h1, hl, k1, k2, hr.kind k3⟩
/-- The i-th program's slice. -/
theorem CmT.code {w w0 : World} {B m bc g : Nat} {xs : List TskV} {i : Nat} {y : TskV} (h : CmT w B (.slice (some ⟨g, 0, none⟩) m bc) xs i) (hi : xs[i]? = some y) (hB : B = w0.heap.size) (hb : Below w0.heap.size w0 w) (hs : SeenI w0 y.ao y.cap y.t.code) (hg : Kind w g 39) (hgB : B ≤ g) :
    ∃ ao cap, w.cell? ⟨g, i * 6 + 5, none⟩ = some (.slice ao y.t.code.length cap) ∧ SeenI w ao cap y.t.code ∧ ∀ b, ao = some b → y.t.code = [] ∨ b.block ≠ g := by
  obtain ⟨l, hl, hr, ha⟩ := h
  have hil : i < l.length := by rw [hl]; exact getElem?_some_lt hi
  obtain ⟨a1, a2, a3, a4⟩ := ha i l[i] y (List.getElem?_eq_getElem hil) hi
  have hc : w.cell? ⟨g, i * 6 + 5, none⟩ = (tsk6 l[i])[5]? := by
    have hs := OwnR.seen' tsk6_len hr
    obtain ⟨b, o, h1, h2, h3⟩ := hs.at i hil
    have := h3 5 (by decide)
    cases h1
    rw [Nat.zero_add] at this
    exact this
  refine ⟨l[i].ao, l[i].cap, ?_, ?_⟩
  · rw [hc, ← a1]; rfl
  · rcases a4 rfl with e | hcd
    · rw [e]
      refine ⟨hs.below hb, fun b hb' => ?_⟩
      by_cases hcn : y.t.code = []
      · exact .inl hcn
      · right
        obtain ⟨b', o, h1, h2, -⟩ := hs.row 0 (List.length_pos_iff.2 hcn)
        rw [h1] at hb'
        cases hb'
        simp only
        omega
    · have hcs := OwnR.seenI hcd
      rw [a1] at hcs
      refine ⟨hcs.1, fun b hb' => .inr (fun e => ?_)⟩
      have hk : Kind w b.block 41 := by
        obtain ⟨cs, hcs⟩ := OwnR.kind hcd (k := b.block) (by rw [hb']; rfl)
        exact ⟨cs, hcs⟩
      rw [e] at hk
      exact absurd (Kind.one hk hg) (by decide)
/-- The copy is stored. -/
theorem CmT.store {w : World} {B m bc g : Nat} {xs : List TskV} {i : Nat} {y : TskV} {bo : Option Addr} {bc' : Nat} (h : CmT w B (.slice (some ⟨g, 0, none⟩) m bc) xs i) (hi : xs[i]? = some y) (hg : Kind w g 39) (ho : OwnIR w B (.slice bo y.t.code.length bc') y.t.code) :
    CpT (w.setCell ⟨g, i * 6 + 5, none⟩ (.slice bo y.t.code.length bc')) B (.slice (some ⟨g, 0, none⟩) m bc) xs (i + 1) := by
  obtain ⟨l, hl, hr, ha⟩ := h
  have hil : i < l.length := by rw [hl]; exact getElem?_some_lt hi
  obtain ⟨a1, a2, a3, a4⟩ := ha i l[i] y (List.getElem?_eq_getElem hil) hi
  have hon : Only w (w.setCell ⟨g, i * 6 + 5, none⟩ (.slice bo y.t.code.length bc')) (fun k => k = g) := Only.setCell w g _ _ _ rfl
  refine ⟨l.set i ⟨y.t, bo, bc'⟩, by simp [hl], hr.set tsk6_len i hil 5 (by decide) _ _ ?_, fun j e z g1 g2 => ?_⟩
  · unfold tsk6
    rw [a1]
    rfl
  · rw [List.getElem?_set] at g1
    by_cases hji : i = j
    · subst hji
      rw [if_pos rfl, if_pos hil] at g1
      cases g1
      rw [hi] at g2
      cases g2
      exact ⟨rfl, fun _ => ho.keep hon (fun k hk => by rw [hk]; exact hg) (by decide), fun h => by omega⟩
    · rw [if_neg hji] at g1
      obtain ⟨b1, b2, b3, b4⟩ := ha j e z g1 g2
      exact ⟨b1, fun h => OwnR.keep (b2 (by omega)) hon (fun k hk => by rw [hk]; exact hg) (by decide), fun h => b3 (by omega)⟩
/-- All programs are copied. -/
theorem CpT.done {w : World} {B : Nat} {v : Value} {xs : List TskV} {i : Nat} (h : CpT w B v xs i) (hi : xs.length ≤ i) : ∃ l : List TskV, l.length = xs.length ∧ l.map (·.t) = xs.map (·.t) ∧ OwnTR w B v l ∧ ∀ e ∈ l, CodeT w B e := by
  obtain ⟨l, hl, hr, ha⟩ := h
  refine ⟨l, hl, ?_, hr, fun e he => ?_⟩
  · apply List.ext_getElem?
    intro j
    rw [List.getElem?_map, List.getElem?_map]
    by_cases hj : j < l.length
    · rw [List.getElem?_eq_getElem hj, List.getElem?_eq_getElem (show j < xs.length by omega)]
      simp only [Option.map_some]
      rw [(ha j _ _ (List.getElem?_eq_getElem hj) (List.getElem?_eq_getElem (show j < xs.length by omega))).1]
    · rw [List.getElem?_eq_none (by omega), List.getElem?_eq_none (by omega)]
  · obtain ⟨j, hj, rfl⟩ := List.getElem_of_mem he
    exact (ha j _ _ (List.getElem?_eq_getElem hj) (List.getElem?_eq_getElem (show j < xs.length by omega))).2.1 (by omega)

/-- What holds in the round's region. -/
structure RgT (w0 w : World) (B D E g m bc : Nat) (box zero : Array Value) (xs : List TskV) (i : Nat) (X : World → Prop) : Prop where
  bel : Below w0.heap.size w0 w
  box : w.heap[D]? = some (.cells box 28)
  zero : w.heap[E]? = some (.cells zero 28)
  mid : CmT w B (.slice (some ⟨g, 0, none⟩) m bc) xs i
  kind : Kind w g 39
  ex : X w
theorem RgT.below {w0 w w1 : World} {B D E g m bc : Nat} {box zero : Array Value} {xs : List TskV} {i : Nat} {X : World → Prop} (h : RgT w0 w B D E g m bc box zero xs i X) (hX : Keeps 39 X) (hb : Below w.heap.size w w1) : RgT w0 w1 B D E g m bc box zero xs i X :=
  ⟨below_on h.bel hb, blk_on hb h.box, blk_on hb h.zero, h.mid.below hb, h.kind.elim fun cs hc => ⟨cs, blk_on hb hc⟩, hX.below _ _ hb h.ex⟩
theorem RgT.store {w0 w : World} {B D E g m bc : Nat} {box zero : Array Value} {xs : List TskV} {i : Nat} {X : World → Prop} {y : TskV} {bo : Option Addr} {bc' : Nat} (h : RgT w0 w B D E g m bc box zero xs i X) (hX : Keeps 39 X) (hB : B = w0.heap.size) (hgB : B ≤ g) (hi : xs[i]? = some y) (ho : OwnIR w B (.slice bo y.t.code.length bc') y.t.code) :
    RgT w0 (w.setCell ⟨g, i * 6 + 5, none⟩ (.slice bo y.t.code.length bc')) B D E g m bc box zero xs i X ∧ CpT (w.setCell ⟨g, i * 6 + 5, none⟩ (.slice bo y.t.code.length bc')) B (.slice (some ⟨g, 0, none⟩) m bc) xs (i + 1) := by
  have hs := h.mid.store hi h.kind ho
  have hD : D ≠ g := by
    rintro rfl
    exact absurd (Kind.one h.kind (kind_of h.box)) (by decide)
  have hE : E ≠ g := by
    rintro rfl
    exact absurd (Kind.one h.kind (kind_of h.zero)) (by decide)
  refine ⟨⟨?_, (heap_set_ne hD).trans h.box, (heap_set_ne hE).trans h.zero, hs.mid', ?_, hX.store _ _ _ _ h.kind h.ex⟩, hs⟩
  · have hb := h.bel
    exact ⟨hb.os, hb.tape, hb.output, by have := hb.size; simp; omega, fun k hk => (heap_set_ne (by omega)).trans (hb.block k hk)⟩
  · obtain ⟨cs, hc⟩ := h.kind
    exact ⟨_, heap_setCell_same w g _ cs _ _ hc⟩
/-- What holds at each round's head. -/
structure LpT (w0 w : World) (B D E : Nat) (box zero : Array Value) (v : Value) (xs : List TskV) (i : Nat) (X : World → Prop) : Prop where
  box : w.heap[D]? = some (.cells box 28)
  zero : w.heap[E]? = some (.cells zero 28)
  bel : Below w0.heap.size w0 w
  cp : CpT w B v xs i
  ex : X w
/-- A step of the region's world. -/
def StT (B g : Nat) (i : Nat) (y : TskV) (w w' : World) : Prop := Below w.heap.size w w' ∨ ∃ bo bc, OwnIR w B (.slice bo y.t.code.length bc) y.t.code ∧ w' = w.setCell ⟨g, i * 6 + 5, none⟩ (.slice bo y.t.code.length bc)

/-! ### Lines -/

/-- The same, while the i-th program is being copied. -/
def CmL (w : World) (B : Nat) (v : Value) (xs : List LinV) (i : Nat) : Prop :=
  ∃ l : List LinV, l.length = xs.length ∧ OwnLR w B v l ∧ ∀ j e y, l[j]? = some e → xs[j]? = some y → e.t = y.t ∧ (j < i → CodeL w B e) ∧ (i < j → e = y) ∧ (j = i → e = y ∨ CodeL w B e)
theorem CpL.mid {w : World} {B : Nat} {v : Value} {xs : List LinV} {i : Nat} (h : CpL w B v xs i) : CmL w B v xs i := by
  obtain ⟨l, hl, hr, ha⟩ := h
  refine ⟨l, hl, hr, fun j e y g1 g2 => ?_⟩
  obtain ⟨a1, a2, a3⟩ := ha j e y g1 g2
  exact ⟨a1, a2, fun h => a3 (by omega), fun h => .inl (a3 (by omega))⟩
theorem CpL.mid' {w : World} {B : Nat} {v : Value} {xs : List LinV} {i : Nat} (h : CpL w B v xs (i + 1)) : CmL w B v xs i := by
  obtain ⟨l, hl, hr, ha⟩ := h
  refine ⟨l, hl, hr, fun j e y g1 g2 => ?_⟩
  obtain ⟨a1, a2, a3⟩ := ha j e y g1 g2
  exact ⟨a1, fun h => a2 (by omega), fun h => a3 (by omega), fun h => .inr (a2 (by omega))⟩
theorem CmL.below {w w1 : World} {B : Nat} {v : Value} {xs : List LinV} {i : Nat} (h : CmL w B v xs i) (hb : Below w.heap.size w w1) : CmL w1 B v xs i := by
  obtain ⟨l, hl, hr, ha⟩ := h
  refine ⟨l, hl, hr.below hb, fun j e y g1 g2 => ?_⟩
  obtain ⟨a1, a2, a3, a4⟩ := ha j e y g1 g2
  exact ⟨a1, fun h => OwnR.below (a2 h) hb, a3, fun h => (a4 h).imp id (fun c => OwnR.below c hb)⟩
theorem CmL.base {w : World} {B m bc : Nat} {bo : Option Addr} {xs : List LinV} {i : Nat} (h : CmL w B (.slice bo m bc) xs i) (hi : 0 < xs.length) : ∃ g, bo = some ⟨g, 0, none⟩ ∧ m = xs.length ∧ B ≤ g ∧ g < w.heap.size ∧ Kind w g 43 := by
  obtain ⟨l, hl, hr, ha⟩ := h
  have hm := hr.len
  obtain ⟨ao, cap, e, s, hx⟩ := OwnR.seen lin2_len hr
  cases e
  obtain ⟨b, off, h1, h2, -⟩ := s.row 0 (by omega)
  obtain ⟨k1, k2, k3, k4⟩ := hx _ h1
  simp only at k4
  obtain rfl : off = 0 := by simpa using k4
  exact ⟨b, h1, hl, k1, k2, hr.kind k3⟩
/-- The i-th program's slice. -/
theorem CmL.code {w w0 : World} {B m bc g : Nat} {xs : List LinV} {i : Nat} {y : LinV} (h : CmL w B (.slice (some ⟨g, 0, none⟩) m bc) xs i) (hi : xs[i]? = some y) (hB : B = w0.heap.size) (hb : Below w0.heap.size w0 w) (hs : SeenI w0 y.ao y.cap y.t.code) (hg : Kind w g 43) (hgB : B ≤ g) :
    ∃ ao cap, w.cell? ⟨g, i * 2 + 1, none⟩ = some (.slice ao y.t.code.length cap) ∧ SeenI w ao cap y.t.code ∧ ∀ b, ao = some b → y.t.code = [] ∨ b.block ≠ g := by
  obtain ⟨l, hl, hr, ha⟩ := h
  have hil : i < l.length := by rw [hl]; exact getElem?_some_lt hi
  obtain ⟨a1, a2, a3, a4⟩ := ha i l[i] y (List.getElem?_eq_getElem hil) hi
  have hc : w.cell? ⟨g, i * 2 + 1, none⟩ = (lin2 l[i])[1]? := by
    have hs := OwnR.seen' lin2_len hr
    obtain ⟨b, o, h1, h2, h3⟩ := hs.at i hil
    have := h3 1 (by decide)
    cases h1
    rw [Nat.zero_add] at this
    exact this
  refine ⟨l[i].ao, l[i].cap, ?_, ?_⟩
  · rw [hc, ← a1]; rfl
  · rcases a4 rfl with e | hcd
    · rw [e]
      refine ⟨hs.below hb, fun b hb' => ?_⟩
      by_cases hcn : y.t.code = []
      · exact .inl hcn
      · right
        obtain ⟨b', o, h1, h2, -⟩ := hs.row 0 (List.length_pos_iff.2 hcn)
        rw [h1] at hb'
        cases hb'
        simp only
        omega
    · have hcs := OwnR.seenI hcd
      rw [a1] at hcs
      refine ⟨hcs.1, fun b hb' => .inr (fun e => ?_)⟩
      have hk : Kind w b.block 41 := by
        obtain ⟨cs, hcs⟩ := OwnR.kind hcd (k := b.block) (by rw [hb']; rfl)
        exact ⟨cs, hcs⟩
      rw [e] at hk
      exact absurd (Kind.one hk hg) (by decide)
/-- The copy is stored. -/
theorem CmL.store {w : World} {B m bc g : Nat} {xs : List LinV} {i : Nat} {y : LinV} {bo : Option Addr} {bc' : Nat} (h : CmL w B (.slice (some ⟨g, 0, none⟩) m bc) xs i) (hi : xs[i]? = some y) (hg : Kind w g 43) (ho : OwnIR w B (.slice bo y.t.code.length bc') y.t.code) :
    CpL (w.setCell ⟨g, i * 2 + 1, none⟩ (.slice bo y.t.code.length bc')) B (.slice (some ⟨g, 0, none⟩) m bc) xs (i + 1) := by
  obtain ⟨l, hl, hr, ha⟩ := h
  have hil : i < l.length := by rw [hl]; exact getElem?_some_lt hi
  obtain ⟨a1, a2, a3, a4⟩ := ha i l[i] y (List.getElem?_eq_getElem hil) hi
  have hon : Only w (w.setCell ⟨g, i * 2 + 1, none⟩ (.slice bo y.t.code.length bc')) (fun k => k = g) := Only.setCell w g _ _ _ rfl
  refine ⟨l.set i ⟨y.t, bo, bc'⟩, by simp [hl], hr.set lin2_len i hil 1 (by decide) _ _ ?_, fun j e z g1 g2 => ?_⟩
  · unfold lin2
    rw [a1]
    rfl
  · rw [List.getElem?_set] at g1
    by_cases hji : i = j
    · subst hji
      rw [if_pos rfl, if_pos hil] at g1
      cases g1
      rw [hi] at g2
      cases g2
      exact ⟨rfl, fun _ => ho.keep hon (fun k hk => by rw [hk]; exact hg) (by decide), fun h => by omega⟩
    · rw [if_neg hji] at g1
      obtain ⟨b1, b2, b3, b4⟩ := ha j e z g1 g2
      exact ⟨b1, fun h => OwnR.keep (b2 (by omega)) hon (fun k hk => by rw [hk]; exact hg) (by decide), fun h => b3 (by omega)⟩
/-- All programs are copied. -/
theorem CpL.done {w : World} {B : Nat} {v : Value} {xs : List LinV} {i : Nat} (h : CpL w B v xs i) (hi : xs.length ≤ i) : ∃ l : List LinV, l.length = xs.length ∧ l.map (·.t) = xs.map (·.t) ∧ OwnLR w B v l ∧ ∀ e ∈ l, CodeL w B e := by
  obtain ⟨l, hl, hr, ha⟩ := h
  refine ⟨l, hl, ?_, hr, fun e he => ?_⟩
  · apply List.ext_getElem?
    intro j
    rw [List.getElem?_map, List.getElem?_map]
    by_cases hj : j < l.length
    · rw [List.getElem?_eq_getElem hj, List.getElem?_eq_getElem (show j < xs.length by omega)]
      simp only [Option.map_some]
      rw [(ha j _ _ (List.getElem?_eq_getElem hj) (List.getElem?_eq_getElem (show j < xs.length by omega))).1]
    · rw [List.getElem?_eq_none (by omega), List.getElem?_eq_none (by omega)]
  · obtain ⟨j, hj, rfl⟩ := List.getElem_of_mem he
    exact (ha j _ _ (List.getElem?_eq_getElem hj) (List.getElem?_eq_getElem (show j < xs.length by omega))).2.1 (by omega)

/-- What holds in the round's region. -/
structure RgL (w0 w : World) (B D E g m bc : Nat) (box zero : Array Value) (xs : List LinV) (i : Nat) (X : World → Prop) : Prop where
  bel : Below w0.heap.size w0 w
  box : w.heap[D]? = some (.cells box 28)
  zero : w.heap[E]? = some (.cells zero 28)
  mid : CmL w B (.slice (some ⟨g, 0, none⟩) m bc) xs i
  kind : Kind w g 43
  ex : X w
theorem RgL.below {w0 w w1 : World} {B D E g m bc : Nat} {box zero : Array Value} {xs : List LinV} {i : Nat} {X : World → Prop} (h : RgL w0 w B D E g m bc box zero xs i X) (hX : Keeps 43 X) (hb : Below w.heap.size w w1) : RgL w0 w1 B D E g m bc box zero xs i X :=
  ⟨below_on h.bel hb, blk_on hb h.box, blk_on hb h.zero, h.mid.below hb, h.kind.elim fun cs hc => ⟨cs, blk_on hb hc⟩, hX.below _ _ hb h.ex⟩
theorem RgL.store {w0 w : World} {B D E g m bc : Nat} {box zero : Array Value} {xs : List LinV} {i : Nat} {X : World → Prop} {y : LinV} {bo : Option Addr} {bc' : Nat} (h : RgL w0 w B D E g m bc box zero xs i X) (hX : Keeps 43 X) (hB : B = w0.heap.size) (hgB : B ≤ g) (hi : xs[i]? = some y) (ho : OwnIR w B (.slice bo y.t.code.length bc') y.t.code) :
    RgL w0 (w.setCell ⟨g, i * 2 + 1, none⟩ (.slice bo y.t.code.length bc')) B D E g m bc box zero xs i X ∧ CpL (w.setCell ⟨g, i * 2 + 1, none⟩ (.slice bo y.t.code.length bc')) B (.slice (some ⟨g, 0, none⟩) m bc) xs (i + 1) := by
  have hs := h.mid.store hi h.kind ho
  have hD : D ≠ g := by
    rintro rfl
    exact absurd (Kind.one h.kind (kind_of h.box)) (by decide)
  have hE : E ≠ g := by
    rintro rfl
    exact absurd (Kind.one h.kind (kind_of h.zero)) (by decide)
  refine ⟨⟨?_, (heap_set_ne hD).trans h.box, (heap_set_ne hE).trans h.zero, hs.mid', ?_, hX.store _ _ _ _ h.kind h.ex⟩, hs⟩
  · have hb := h.bel
    exact ⟨hb.os, hb.tape, hb.output, by have := hb.size; simp; omega, fun k hk => (heap_set_ne (by omega)).trans (hb.block k hk)⟩
  · obtain ⟨cs, hc⟩ := h.kind
    exact ⟨_, heap_setCell_same w g _ cs _ _ hc⟩
/-- What holds at each round's head. -/
structure LpL (w0 w : World) (B D E : Nat) (box zero : Array Value) (v : Value) (xs : List LinV) (i : Nat) (X : World → Prop) : Prop where
  box : w.heap[D]? = some (.cells box 28)
  zero : w.heap[E]? = some (.cells zero 28)
  bel : Below w0.heap.size w0 w
  cp : CpL w B v xs i
  ex : X w
/-- A step of the region's world. -/
def StL (B g : Nat) (i : Nat) (y : LinV) (w w' : World) : Prop := Below w.heap.size w w' ∨ ∃ bo bc, OwnIR w B (.slice bo y.t.code.length bc) y.t.code ∧ w' = w.setCell ⟨g, i * 2 + 1, none⟩ (.slice bo y.t.code.length bc)

end Go.Proofs.YtbhnehacgkhpbaaDoor
