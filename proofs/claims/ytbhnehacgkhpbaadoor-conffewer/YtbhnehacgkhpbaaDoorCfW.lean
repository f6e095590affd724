/-
  Two copies of a system side by side: where their rows lie, and what stands while both are made and stored. No condition.
-/
import Derived.Test.YtbhnehacgkhpbaaDoorCfE
import Derived.Test.YtbhnehacgkhpbaaDoorRel5
namespace Go.Proofs.YtbhnehacgkhpbaaDoor
open Go Go.RowKit
set_option linter.unusedVariables false
set_option linter.unusedSimpArgs false

/-- Where a system's rows lie. -/
def HasAddr (y : CfgV) (a : Addr) : Prop :=
  y.tao = some a ∨ y.lao = some a ∨ y.sao = some a ∨ y.qao = some a ∨ y.mao = some a ∨ (∃ e ∈ y.tasks, e.ao = some a) ∨ (∃ e ∈ y.lines, e.ao = some a)
theorem own_blk {a : Addr} {n c : Nat} : (Value.slice (some a) n c).ownBlock = some a.block := rfl
theorem OwnR.blk {α : Type} {ty : TypeId} {n : Nat} {f : α → List Value} {w : World} {B : Nat} {ao : Option Addr} {m c : Nat} {l : List α} (h : OwnR ty n f w B (.slice ao m c) l) {a : Addr} (ha : ao = some a) : B ≤ a.block ∧ a.block < w.heap.size := by
  subst ha
  exact h.lt a.block rfl
theorem OwnC.addr {w : World} {B : Nat} {y : CfgV} (h : OwnC w B y) {a : Addr} (ha : HasAddr y a) : B ≤ a.block ∧ a.block < w.heap.size := by
  rcases ha with h1 | h1 | h1 | h1 | h1 | ⟨e, he, h1⟩ | ⟨e, he, h1⟩
  · exact h.ts.blk h1
  · exact h.ls.blk h1
  · exact h.ss.blk h1
  · exact h.qs.blk h1
  · exact h.ms.blk h1
  · exact OwnR.blk (h.tc e he) h1
  · exact OwnR.blk (h.lc e he) h1
theorem own_addr {v : Value} {k : Nat} (h : v.ownBlock = some k) : ∃ a n c, v = .slice (some a) n c ∧ a.block = k := by
  cases v with
  | slice ao n c =>
    cases ao with
    | none => cases h
    | some a => exact ⟨a, n, c, rfl, by simpa [Value.ownBlock] using h⟩
  | _ => cases h
theorem OwnR.onlyA {α : Type} {ty : TypeId} {n : Nat} {f : α → List Value} {w w1 : World} {B : Nat} {ao : Option Addr} {m c : Nat} {l : List α} {S : Nat → Prop} (h : OwnR ty n f w B (.slice ao m c) l) (ho : Only w w1 S) (hS : ∀ a, ao = some a → ¬ S a.block) : OwnR ty n f w1 B (.slice ao m c) l :=
  h.only ho (fun k hk hs => by
    obtain ⟨a, m', c', e, rfl⟩ := own_addr hk
    cases e
    exact hS a rfl hs)
/-- A system of one's own stays where other blocks than its own are turned. -/
theorem OwnC.onlyA {w w1 : World} {B : Nat} {y : CfgV} {S : Nat → Prop} (h : OwnC w B y) (ho : Only w w1 S) (hS : ∀ a, HasAddr y a → ¬ S a.block) : OwnC w1 B y :=
  ⟨h.ts.onlyA ho (fun a ha => hS a (.inl ha)), fun e he => OwnR.onlyA (h.tc e he) ho (fun a ha => hS a (.inr (.inr (.inr (.inr (.inr (.inl ⟨e, he, ha⟩))))))),
   h.ls.onlyA ho (fun a ha => hS a (.inr (.inl ha))), fun e he => OwnR.onlyA (h.lc e he) ho (fun a ha => hS a (.inr (.inr (.inr (.inr (.inr (.inr ⟨e, he, ha⟩))))))),
   h.ss.onlyA ho (fun a ha => hS a (.inr (.inr (.inl ha)))), h.qs.onlyA ho (fun a ha => hS a (.inr (.inr (.inr (.inl ha))))), h.ms.onlyA ho (fun a ha => hS a (.inr (.inr (.inr (.inr (.inl ha))))))⟩
theorem OwnC.mono {w : World} {B B' : Nat} {y : CfgV} (h : OwnC w B y) (hB : B' ≤ B) : OwnC w B' y :=
  ⟨h.ts.mono hB, fun e he => OwnR.mono (h.tc e he) hB, h.ls.mono hB, fun e he => OwnR.mono (h.lc e he) hB, h.ss.mono hB, h.qs.mono hB, h.ms.mono hB⟩
/-- Two systems' rows lie apart. -/
def Apart (y z : CfgV) : Prop := ∀ a b, HasAddr y a → HasAddr z b → a.block ≠ b.block

/-- A block that holds some system. -/
def BoxAt (w : World) (D g : Nat) : Prop := D ≤ g ∧ ∃ v0 v1 v2 v3 v4 v5 v6 v7 v8 v9 v10 v11, w.heap[g]? = some (.cells #[v0, v1, v2, v3, v4, v5, v6, v7, v8, v9, v10, v11] 28)
theorem BoxAt.kind {w : World} {D g : Nat} (h : BoxAt w D g) : Kind w g 28 := by
  obtain ⟨-, v0, v1, v2, v3, v4, v5, v6, v7, v8, v9, v10, v11, h⟩ := h
  exact ⟨_, h⟩
theorem BoxAt.lt {w : World} {D g : Nat} (h : BoxAt w D g) : g < w.heap.size := by
  obtain ⟨-, v0, v1, v2, v3, v4, v5, v6, v7, v8, v9, v10, v11, h⟩ := h
  exact blk_lt h
theorem boxAt_of {w : World} {D g : Nat} {y : CfgV} (hD : D ≤ g) (h : w.heap[g]? = some (cfO y)) : BoxAt w D g := ⟨hD, _, _, _, _, _, _, _, _, _, _, _, _, h⟩
theorem boxAt_zero {w : World} {D g : Nat} (hD : D ≤ g) (h : w.heap[g]? = some (.cells zeroA 28)) : BoxAt w D g := ⟨hD, _, _, _, _, _, _, _, _, _, _, _, _, h⟩
theorem boxAt_cells {w : World} {D g : Nat} (h : BoxAt w D g) : ∃ v0 v1 v2 v3 v4 v5 v6 v7 v8 v9 v10 v11, w.heap[g]? = some (.cells #[v0, v1, v2, v3, v4, v5, v6, v7, v8, v9, v10, v11] 28) ∧
    w.cell? ⟨g, 0, none⟩ = some v0 ∧ w.cell? ⟨g, 1, none⟩ = some v1 ∧ w.cell? ⟨g, 2, none⟩ = some v2 ∧ w.cell? ⟨g, 3, none⟩ = some v3 ∧ w.cell? ⟨g, 4, none⟩ = some v4 ∧ w.cell? ⟨g, 5, none⟩ = some v5 ∧
    w.cell? ⟨g, 6, none⟩ = some v6 ∧ w.cell? ⟨g, 7, none⟩ = some v7 ∧ w.cell? ⟨g, 8, none⟩ = some v8 ∧ w.cell? ⟨g, 9, none⟩ = some v9 ∧ w.cell? ⟨g, 10, none⟩ = some v10 ∧ w.cell? ⟨g, 11, none⟩ = some v11 := by
  obtain ⟨-, v0, v1, v2, v3, v4, v5, v6, v7, v8, v9, v10, v11, h⟩ := h
  refine ⟨v0, v1, v2, v3, v4, v5, v6, v7, v8, v9, v10, v11, h, ?_, ?_, ?_, ?_, ?_, ?_, ?_, ?_, ?_, ?_, ?_, ?_⟩ <;> simp [World.cell?, h]
/-- A system stored in its block. -/
def cfSt (w : World) (g : Nat) (y : CfgV) : World := stN w g 0 [.slice y.tao y.tasks.length y.tcap, .slice y.lao y.lines.length y.lcap, .int .i64 y.mtx, .slice y.sao y.sems.length y.scap, .slice y.qao y.queues.length y.qcap, .slice y.mao y.timers.length y.mcap,
  .int .i64 y.table, .int .u32 (y.mask : Int), .int .u32 (y.filter : Int), .int .i64 y.charge, .int .u64 (y.cycle : Int), .int .u64 (y.count : Int)]
theorem cfSt_at {w : World} {D g : Nat} (y : CfgV) (h : BoxAt w D g) : (cfSt w g y).heap[g]? = some (cfO y) := by
  obtain ⟨-, v0, v1, v2, v3, v4, v5, v6, v7, v8, v9, v10, v11, h⟩ := h
  have := stN_block [.slice y.tao y.tasks.length y.tcap, .slice y.lao y.lines.length y.lcap, .int .i64 y.mtx, .slice y.sao y.sems.length y.scap, .slice y.qao y.queues.length y.qcap, .slice y.mao y.timers.length y.mcap,
    .int .i64 y.table, .int .u32 (y.mask : Int), .int .u32 (y.filter : Int), .int .i64 y.charge, .int .u64 (y.cycle : Int), .int .u64 (y.count : Int)] w 0 _ h
  unfold cfSt
  rw [this]
  unfold cfO cfCells
  simp only [setsA, List.setIfInBounds_toArray, List.set_cons_succ, List.set_cons_zero]
theorem cfSt_only (w : World) (g : Nat) (y : CfgV) : Only w (cfSt w g y) (fun k => k = g) := stN_only _ _ _
theorem cfSt_below {w0 w : World} {g : Nat} (y : CfgV) (h : Below w0.heap.size w0 w) (hg : w0.heap.size ≤ g) : Below w0.heap.size w0 (cfSt w g y) := stN_below h hg _ _ h.size

/-- What a step of such a region does to the world. -/
def StB (D : Nat) (w w' : World) : Prop := Below w.heap.size w w' ∨ ∃ g y, BoxAt w D g ∧ w' = cfSt w g y
theorem BoxAt.step {w w' : World} {D g : Nat} (h : BoxAt w D g) (hs : StB D w w') : BoxAt w' D g := by
  rcases hs with hb | ⟨k, y, hk, rfl⟩
  · obtain ⟨h1, v0, v1, v2, v3, v4, v5, v6, v7, v8, v9, v10, v11, h⟩ := h
    exact ⟨h1, v0, v1, v2, v3, v4, v5, v6, v7, v8, v9, v10, v11, blk_on hb h⟩
  · by_cases e : g = k
    · subst e
      exact boxAt_of h.1 (cfSt_at y hk)
    · obtain ⟨h1, v0, v1, v2, v3, v4, v5, v6, v7, v8, v9, v10, v11, h⟩ := h
      exact ⟨h1, v0, v1, v2, v3, v4, v5, v6, v7, v8, v9, v10, v11, ((cfSt_only w k y).block g (blk_lt h) e).trans h⟩
theorem OwnC.step {w w' : World} {D B : Nat} {y : CfgV} (h : OwnC w B y) (hs : StB D w w') : OwnC w' B y := by
  rcases hs with hb | ⟨k, z, hk, rfl⟩
  · exact h.below hb
  · exact h.keep (cfSt_only w k z) (fun j e => by rw [e]; exact hk.kind)

/-- What stands while two copies are made and stored: p tells what is done (1, 3: the copies; 4, 5: the blocks; 6, 7: the stores). -/
def TwoJ (D : Nat) (c : Cfg) (p : Nat → Bool) (xa xb ga gb : Value) (w : World) : Prop :=
  ∃ (y1 y2 : CfgV) (g h : Nat), (p 1 = true → xa = cfV y1 ∧ y1.c = c ∧ OwnC w D y1) ∧ (p 3 = true → xb = cfV y2 ∧ y2.c = c ∧ OwnC w D y2) ∧ (p 1 = true → p 3 = true → Apart y1 y2) ∧
    (p 4 = true → ga = .pointer (some ⟨g, 0, none⟩) ∧ BoxAt w D g) ∧ (p 5 = true → gb = .pointer (some ⟨h, 0, none⟩) ∧ BoxAt w D h) ∧ (p 4 = true → p 5 = true → g ≠ h) ∧
    (p 1 = true → p 4 = true → p 6 = true → w.heap[g]? = some (cfO y1)) ∧ (p 3 = true → p 5 = true → p 7 = true → w.heap[h]? = some (cfO y2))
theorem cfO_of {y z : CfgV} (h : cfV y = cfV z) : cfO y = cfO z := by
  unfold cfV at h
  unfold cfO
  simp only [Value.agg.injEq] at h
  rw [h]
/-- Nothing that matters is done, and no stored block is turned. -/
theorem TwoJ.same {D : Nat} {c : Cfg} {p q : Nat → Bool} {xa xb ga gb : Value} {w w' : World} (h : TwoJ D c p xa xb ga gb w) (hb : Below w.heap.size w w') (hq : q 1 = p 1 ∧ q 3 = p 3 ∧ q 4 = p 4 ∧ q 5 = p 5 ∧ q 6 = p 6 ∧ q 7 = p 7) : TwoJ D c q xa xb ga gb w' := by
  obtain ⟨y1, y2, g, h, a1, a2, a3, a4, a5, a6, a7, a8⟩ := h
  obtain ⟨q1, q3, q4, q5, q6, q7⟩ := hq
  refine ⟨y1, y2, g, h, ?_, ?_, ?_, ?_, ?_, ?_, ?_, ?_⟩
  · rw [q1]; intro e; exact ⟨(a1 e).1, (a1 e).2.1, (a1 e).2.2.below hb⟩
  · rw [q3]; intro e; exact ⟨(a2 e).1, (a2 e).2.1, (a2 e).2.2.below hb⟩
  · rw [q1, q3]; exact a3
  · rw [q4]; intro e; exact ⟨(a4 e).1, (a4 e).2.step (.inl hb)⟩
  · rw [q5]; intro e; exact ⟨(a5 e).1, (a5 e).2.step (.inl hb)⟩
  · rw [q4, q5]; exact a6
  · rw [q1, q4, q6]; intro e1 e2 e3; exact blk_on hb (a7 e1 e2 e3)
  · rw [q3, q5, q7]; intro e1 e2 e3; exact blk_on hb (a8 e1 e2 e3)
/-- The first copy is made. -/
theorem TwoJ.call1 {D : Nat} {c : Cfg} {p q : Nat → Bool} {xa xb ga gb v : Value} {w w' : World} {y : CfgV} (h : TwoJ D c p xa xb ga gb w) (hb : Below w.heap.size w w') (hq : q 3 = p 3 ∧ q 4 = p 4 ∧ q 5 = p 5 ∧ q 6 = p 6 ∧ q 7 = p 7) (h6 : p 6 = false) (hv : v = cfV y) (hc : y.c = c) (ho : OwnC w' w.heap.size y) (hD : D ≤ w.heap.size) :
    TwoJ D c q v xb ga gb w' := by
  obtain ⟨y1, y2, g, h, a1, a2, a3, a4, a5, a6, a7, a8⟩ := h
  obtain ⟨q3, q4, q5, q6, q7⟩ := hq
  refine ⟨y, y2, g, h, fun _ => ⟨hv, hc, ho.mono hD⟩, ?_, ?_, ?_, ?_, ?_, ?_, ?_⟩
  · rw [q3]; intro e; exact ⟨(a2 e).1, (a2 e).2.1, (a2 e).2.2.below hb⟩
  · rw [q3]; intro _ e a b ha hb'
    have h1 := (ho.addr ha).1
    have h2 := ((a2 e).2.2.addr hb').2
    omega
  · rw [q4]; intro e; exact ⟨(a4 e).1, (a4 e).2.step (.inl hb)⟩
  · rw [q5]; intro e; exact ⟨(a5 e).1, (a5 e).2.step (.inl hb)⟩
  · rw [q4, q5]; exact a6
  · rw [q6, h6]; intro _ _ e; cases e
  · rw [q3, q5, q7]; intro e1 e2 e3; exact blk_on hb (a8 e1 e2 e3)
theorem TwoJ.call3 {D : Nat} {c : Cfg} {p q : Nat → Bool} {xa xb ga gb v : Value} {w w' : World} {y : CfgV} (h : TwoJ D c p xa xb ga gb w) (hb : Below w.heap.size w w') (hq : q 1 = p 1 ∧ q 4 = p 4 ∧ q 5 = p 5 ∧ q 6 = p 6 ∧ q 7 = p 7) (h7 : p 7 = false) (hv : v = cfV y) (hc : y.c = c) (ho : OwnC w' w.heap.size y) (hD : D ≤ w.heap.size) :
    TwoJ D c q xa v ga gb w' := by
  obtain ⟨y1, y2, g, h, a1, a2, a3, a4, a5, a6, a7, a8⟩ := h
  obtain ⟨q1, q4, q5, q6, q7⟩ := hq
  refine ⟨y1, y, g, h, ?_, fun _ => ⟨hv, hc, ho.mono hD⟩, ?_, ?_, ?_, ?_, ?_, ?_⟩
  · rw [q1]; intro e; exact ⟨(a1 e).1, (a1 e).2.1, (a1 e).2.2.below hb⟩
  · rw [q1]; intro e _ a b ha hb'
    have h1 := (ho.addr hb').1
    have h2 := ((a1 e).2.2.addr ha).2
    omega
  · rw [q4]; intro e; exact ⟨(a4 e).1, (a4 e).2.step (.inl hb)⟩
  · rw [q5]; intro e; exact ⟨(a5 e).1, (a5 e).2.step (.inl hb)⟩
  · rw [q4, q5]; exact a6
  · rw [q1, q4, q6]; intro e1 e2 e3; exact blk_on hb (a7 e1 e2 e3)
  · rw [q7, h7]; intro _ _ e; cases e
/-- A block is made. -/
theorem TwoJ.new4 {D : Nat} {c : Cfg} {p q : Nat → Bool} {xa xb ga gb : Value} {w w' : World} (h : TwoJ D c p xa xb ga gb w) (hb : Below w.heap.size w w') (hq : q 1 = p 1 ∧ q 3 = p 3 ∧ q 5 = p 5 ∧ q 6 = p 6 ∧ q 7 = p 7) (h6 : p 6 = false) (hn : BoxAt w' D w.heap.size) :
    TwoJ D c q xa xb (.pointer (some ⟨w.heap.size, 0, none⟩)) gb w' := by
  obtain ⟨y1, y2, g, h, a1, a2, a3, a4, a5, a6, a7, a8⟩ := h
  obtain ⟨q1, q3, q5, q6, q7⟩ := hq
  refine ⟨y1, y2, w.heap.size, h, ?_, ?_, ?_, fun _ => ⟨rfl, hn⟩, ?_, ?_, ?_, ?_⟩
  · rw [q1]; intro e; exact ⟨(a1 e).1, (a1 e).2.1, (a1 e).2.2.below hb⟩
  · rw [q3]; intro e; exact ⟨(a2 e).1, (a2 e).2.1, (a2 e).2.2.below hb⟩
  · rw [q1, q3]; exact a3
  · rw [q5]; intro e; exact ⟨(a5 e).1, (a5 e).2.step (.inl hb)⟩
  · rw [q5]; intro _ e; have := (a5 e).2.lt; omega
  · rw [q6, h6]; intro _ _ e; cases e
  · rw [q3, q5, q7]; intro e1 e2 e3; exact blk_on hb (a8 e1 e2 e3)
theorem TwoJ.new5 {D : Nat} {c : Cfg} {p q : Nat → Bool} {xa xb ga gb : Value} {w w' : World} (h : TwoJ D c p xa xb ga gb w) (hb : Below w.heap.size w w') (hq : q 1 = p 1 ∧ q 3 = p 3 ∧ q 4 = p 4 ∧ q 6 = p 6 ∧ q 7 = p 7) (h7 : p 7 = false) (hn : BoxAt w' D w.heap.size) :
    TwoJ D c q xa xb ga (.pointer (some ⟨w.heap.size, 0, none⟩)) w' := by
  obtain ⟨y1, y2, g, h, a1, a2, a3, a4, a5, a6, a7, a8⟩ := h
  obtain ⟨q1, q3, q4, q6, q7⟩ := hq
  refine ⟨y1, y2, g, w.heap.size, ?_, ?_, ?_, ?_, fun _ => ⟨rfl, hn⟩, ?_, ?_, ?_⟩
  · rw [q1]; intro e; exact ⟨(a1 e).1, (a1 e).2.1, (a1 e).2.2.below hb⟩
  · rw [q3]; intro e; exact ⟨(a2 e).1, (a2 e).2.1, (a2 e).2.2.below hb⟩
  · rw [q1, q3]; exact a3
  · rw [q4]; intro e; exact ⟨(a4 e).1, (a4 e).2.step (.inl hb)⟩
  · rw [q4]; intro e _; have := (a4 e).2.lt; omega
  · rw [q1, q4, q6]; intro e1 e2 e3; exact blk_on hb (a7 e1 e2 e3)
  · rw [q7, h7]; intro _ _ e; cases e

/-- A copy is stored. -/
theorem TwoJ.store6 {D : Nat} {c : Cfg} {p q : Nat → Bool} {xa xb ga gb : Value} {w : World} {y : CfgV} {g : Nat} (h : TwoJ D c p xa xb ga gb w) (hq : q 1 = p 1 ∧ q 3 = p 3 ∧ q 4 = p 4 ∧ q 5 = p 5 ∧ q 7 = p 7) (h1 : p 1 = true) (h4 : p 4 = true) (hx : xa = cfV y) (hg : ga = .pointer (some ⟨g, 0, none⟩)) (hb : BoxAt w D g) :
    TwoJ D c q xa xb ga gb (cfSt w g y) := by
  obtain ⟨y1, y2, g', h, a1, a2, a3, a4, a5, a6, a7, a8⟩ := h
  obtain ⟨q1, q3, q4, q5, q7⟩ := hq
  have hs : StB D w (cfSt w g y) := .inr ⟨g, y, hb, rfl⟩
  have eg : g = g' := by
    have := (a4 h4).1
    rw [hg] at this
    simpa using this
  subst eg
  have ey : cfO y = cfO y1 := cfO_of (hx.symm.trans (a1 h1).1)
  refine ⟨y1, y2, g, h, ?_, ?_, ?_, ?_, ?_, ?_, ?_, ?_⟩
  · rw [q1]; intro e; exact ⟨(a1 e).1, (a1 e).2.1, (a1 e).2.2.step hs⟩
  · rw [q3]; intro e; exact ⟨(a2 e).1, (a2 e).2.1, (a2 e).2.2.step hs⟩
  · rw [q1, q3]; exact a3
  · rw [q4]; intro e; exact ⟨(a4 e).1, (a4 e).2.step hs⟩
  · rw [q5]; intro e; exact ⟨(a5 e).1, (a5 e).2.step hs⟩
  · rw [q4, q5]; exact a6
  · intro _ _ _; rw [cfSt_at y hb, ey]
  · rw [q3, q5, q7]; intro e1 e2 e3
    rw [(cfSt_only w g y).block h (a5 e2).2.lt (fun e => a6 h4 e2 e.symm)]
    exact a8 e1 e2 e3
theorem TwoJ.store7 {D : Nat} {c : Cfg} {p q : Nat → Bool} {xa xb ga gb : Value} {w : World} {y : CfgV} {g : Nat} (h : TwoJ D c p xa xb ga gb w) (hq : q 1 = p 1 ∧ q 3 = p 3 ∧ q 4 = p 4 ∧ q 5 = p 5 ∧ q 6 = p 6) (h3 : p 3 = true) (h5 : p 5 = true) (hx : xb = cfV y) (hg : gb = .pointer (some ⟨g, 0, none⟩)) (hb : BoxAt w D g) :
    TwoJ D c q xa xb ga gb (cfSt w g y) := by
  obtain ⟨y1, y2, g', h, a1, a2, a3, a4, a5, a6, a7, a8⟩ := h
  obtain ⟨q1, q3, q4, q5, q6⟩ := hq
  have hs : StB D w (cfSt w g y) := .inr ⟨g, y, hb, rfl⟩
  have eg : g = h := by
    have := (a5 h5).1
    rw [hg] at this
    simpa using this
  subst eg
  have ey : cfO y = cfO y2 := cfO_of (hx.symm.trans (a2 h3).1)
  refine ⟨y1, y2, g', g, ?_, ?_, ?_, ?_, ?_, ?_, ?_, ?_⟩
  · rw [q1]; intro e; exact ⟨(a1 e).1, (a1 e).2.1, (a1 e).2.2.step hs⟩
  · rw [q3]; intro e; exact ⟨(a2 e).1, (a2 e).2.1, (a2 e).2.2.step hs⟩
  · rw [q1, q3]; exact a3
  · rw [q4]; intro e; exact ⟨(a4 e).1, (a4 e).2.step hs⟩
  · rw [q5]; intro e; exact ⟨(a5 e).1, (a5 e).2.step hs⟩
  · rw [q4, q5]; exact a6
  · rw [q1, q4, q6]; intro e1 e2 e3
    rw [(cfSt_only w g y).block g' (a4 e2).2.lt (fun e => a6 e2 h5 e)]
    exact a7 e1 e2 e3
  · intro _ _ _; rw [cfSt_at y hb, ey]

/-- What is known of the values: the system, a copy, the system, a copy, a block, a block. -/
def twoR (D : Nat) (x : CfgV) : List (Value → World → Prop) :=
  [fun v _ => v = cfV x, fun v u => ∃ y, v = cfV y ∧ y.c = x.c ∧ OwnC u D y, fun v _ => v = cfV x, fun v u => ∃ y, v = cfV y ∧ y.c = x.c ∧ OwnC u D y,
    fun v u => ∃ g, v = .pointer (some ⟨g, 0, none⟩) ∧ BoxAt u D g, fun v u => ∃ g, v = .pointer (some ⟨g, 0, none⟩) ∧ BoxAt u D g, fun _ _ => True, fun _ _ => True]
theorem twoR_step {D : Nat} {x : CfgV} (j : Nat) (v : Value) (u u' : World) (hg : StB D u u') (h : ((twoR D x).getD j (fun _ _ => True)) v u) : ((twoR D x).getD j (fun _ _ => True)) v u' := by
  rcases j with _ | _ | _ | _ | _ | _ | _ | _ | j
  · exact h
  · obtain ⟨y, e, e2, ho⟩ := h; exact ⟨y, e, e2, ho.step hg⟩
  · exact h
  · obtain ⟨y, e, e2, ho⟩ := h; exact ⟨y, e, e2, ho.step hg⟩
  · obtain ⟨g, e, hb⟩ := h; exact ⟨g, e, hb.step hg⟩
  · obtain ⟨g, e, hb⟩ := h; exact ⟨g, e, hb.step hg⟩
  · trivial
  · trivial
  · trivial
theorem twoJ_start (D : Nat) (x : CfgV) (xa xb ga gb : Value) (u : World) : TwoJ D x.c (fun j => (Array.replicate 8 false).getD j false) xa xb ga gb u := by
  have hz : ∀ j, (Array.replicate 8 false).getD j false = false := by
    intro j
    rw [Array.getD_eq_getD_getElem?, Array.getElem?_replicate]
    split <;> rfl
  have hf : ∀ j, ¬ (fun j => (Array.replicate 8 false).getD j false) j = true := fun j h => by rw [show (fun j => (Array.replicate 8 false).getD j false) j = (Array.replicate 8 false).getD j false from rfl, hz] at h; cases h
  exact ⟨x, x, 0, 0, fun h => absurd h (hf 1), fun h => absurd h (hf 3), fun h => absurd h (hf 1), fun h => absurd h (hf 4), fun h => absurd h (hf 5), fun h => absurd h (hf 4), fun h => absurd h (hf 1), fun h => absurd h (hf 3)⟩
/-- What stands behind both. -/
theorem TwoJ.done {D : Nat} {c : Cfg} {l : Array Bool} {xa xb ga gb : Value} {w : World} (h : TwoJ D c (fun j => l.getD j false) xa xb ga gb w) (hl : ∀ j, l.getD j true = true) (hn : l.size = 8) :
    ∃ (y1 y2 : CfgV) (g h : Nat), ga = .pointer (some ⟨g, 0, none⟩) ∧ gb = .pointer (some ⟨h, 0, none⟩) ∧ y1.c = c ∧ OwnC w D y1 ∧ y2.c = c ∧ OwnC w D y2 ∧ Apart y1 y2 ∧ D ≤ g ∧ D ≤ h ∧ g ≠ h ∧ w.heap[g]? = some (cfO y1) ∧ w.heap[h]? = some (cfO y2) := by
  have hl' : ∀ j, j < 8 → l.getD j false = true := fun j hj => by rw [getD_bool l j (by rw [hn]; exact hj) false true]; exact hl j
  obtain ⟨y1, y2, g, h, a1, a2, a3, a4, a5, a6, a7, a8⟩ := h
  obtain ⟨-, hc1, ho1⟩ := a1 (hl' 1 (by decide))
  obtain ⟨-, hc2, ho2⟩ := a2 (hl' 3 (by decide))
  obtain ⟨eg, hb1⟩ := a4 (hl' 4 (by decide))
  obtain ⟨eh, hb2⟩ := a5 (hl' 5 (by decide))
  exact ⟨y1, y2, g, h, eg, eh, hc1, ho1, hc2, ho2, a3 (hl' 1 (by decide)) (hl' 3 (by decide)), hb1.1, hb2.1, a6 (hl' 4 (by decide)) (hl' 5 (by decide)),
    a7 (hl' 1 (by decide)) (hl' 4 (by decide)) (hl' 6 (by decide)), a8 (hl' 3 (by decide)) (hl' 5 (by decide)) (hl' 7 (by decide))⟩

end Go.Proofs.YtbhnehacgkhpbaaDoor
