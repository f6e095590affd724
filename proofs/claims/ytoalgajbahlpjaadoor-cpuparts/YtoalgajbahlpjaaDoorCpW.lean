/-
  Two copies of a context side by side: where their rows lie, and what stands while both are made and stored. No condition.
-/
import Derived.Test.YtoalgajbahlpjaaDoorCpR
import Derived.Test.YtoalgajbahlpjaaDoorRel5
namespace Go.Proofs.YtoalgajbahlpjaaDoor
open Go Go.RowKit
set_option linter.unusedVariables false
set_option linter.unusedSimpArgs false

/-- A context with its memory's slice. -/
structure CxV where
  x : Ctx
  ao : Option Addr
  cap : Nat
def cyV (y : CxV) : Value := cxV y.x (.slice y.ao y.x.mem.length y.cap)
def cyO (y : CxV) : Obj := cxO y.x (.slice y.ao y.x.mem.length y.cap)
def HasA (y : CxV) (a : Addr) : Prop := y.ao = some a
def OwnY (w : World) (B : Nat) (y : CxV) : Prop := y.x.regs.length = 8 ∧ OwnW w B (.slice y.ao y.x.mem.length y.cap) y.x.mem
theorem OwnY.addr {w : World} {B : Nat} {y : CxV} (h : OwnY w B y) {a : Addr} (ha : HasA y a) : B ≤ a.block ∧ a.block < w.heap.size := by
  obtain ⟨yx, yo, yc⟩ := y
  have ha : yo = some a := ha
  subst ha
  exact h.2.lt a.block rfl
theorem OwnY.below {w w' : World} {B : Nat} {y : CxV} (h : OwnY w B y) (hb : Below w.heap.size w w') : OwnY w' B y := ⟨h.1, h.2.below hb⟩
theorem OwnY.mono {w : World} {B B' : Nat} {y : CxV} (h : OwnY w B y) (hB : B' ≤ B) : OwnY w B' y := ⟨h.1, OwnR.mono h.2 hB⟩
def ApartY (y z : CxV) : Prop := ∀ a b, HasA y a → HasA z b → a.block ≠ b.block
def cySt (w : World) (g : Nat) (y : CxV) : World := stX w g y.x y.ao y.cap
theorem cySt_at {w : World} {D g : Nat} (y : CxV) (hr : y.x.regs.length = 8) (h : FBox w D g) : (cySt w g y).heap[g]? = some (cyO y) := stX_at hr h
theorem cySt_only (w : World) (g : Nat) (y : CxV) : Only w (cySt w g y) (fun k => k = g) := stN_only _ _ _
theorem cySt_below {w0 w : World} {g : Nat} (y : CxV) (h : Below w0.heap.size w0 w) (hg : w0.heap.size ≤ g) : Below w0.heap.size w0 (cySt w g y) := stN_below h hg _ _ h.size
/-- What a step of such a region does to the world. -/
def StY (D : Nat) (w w' : World) : Prop := Below w.heap.size w w' ∨ ∃ g y, y.x.regs.length = 8 ∧ FBox w D g ∧ w' = cySt w g y
theorem FBox.step' {w w' : World} {D g : Nat} (h : FBox w D g) (hs : StY D w w') : FBox w' D g := by
  rcases hs with hb | ⟨k, y, hr, hk, rfl⟩
  · obtain ⟨h1, cs, h2, h3⟩ := h
    exact ⟨h1, cs, h2, blk_on hb h3⟩
  · by_cases e : g = k
    · subst e
      exact ⟨h.1, _, by simp [cxA, cxL_len hr], cySt_at y hr hk⟩
    · obtain ⟨h1, cs, h2, h3⟩ := h
      exact ⟨h1, cs, h2, ((cySt_only w k y).block g (blk_lt h3) e).trans h3⟩
theorem OwnY.step {w w' : World} {D B : Nat} {y : CxV} (h : OwnY w B y) (hs : StY D w w') : OwnY w' B y := by
  rcases hs with hb | ⟨k, z, hr, hk, rfl⟩
  · exact h.below hb
  · refine ⟨h.1, h.2.only (cySt_only w k z) ?_⟩
    intro j hj e
    obtain ⟨cs, h1⟩ := OwnR.kind h.2 hj
    obtain ⟨-, cs', -, h2⟩ := hk
    rw [e, h2] at h1
    injection h1 with h3
    injection h3 with h4 h5
    exact absurd h5 (by decide)

/-- A row of words lies in no context's block. -/
theorem row_ne {w : World} {B g n cap : Nat} {a : Addr} {l : List Nat} {cs : Array Value} (h : OwnW w B (.slice (some a) n cap) l) (hg : w.heap[g]? = some (.cells cs 26)) : a.block ≠ g := by
  intro e
  obtain ⟨cs', h1⟩ := OwnR.kind (k := a.block) h rfl
  rw [e, hg] at h1
  injection h1 with h3
  injection h3 with h4 h5
  exact absurd h5 (by decide)
theorem OwnY.cx {w : World} {B g : Nat} {y : CxV} (h : OwnY w B y) (hf : CtxFits y.x) (hg : w.heap[g]? = some (cyO y)) (hB : B ≤ g) : Cx w B g y.ao y.cap y.x := by
  refine ⟨hf, hg, hB, h.2, fun a ha => ?_⟩
  obtain ⟨yx, yo, yc⟩ := y
  have ha : yo = some a := ha
  subst ha
  exact row_ne h.2 hg
/-- One context stays where another one is turned that lies apart. -/
theorem Cx.beside {w w' : World} {B g h c1 c2 : Nat} {a1 a2 : Option Addr} {x y : Ctx} (hx : Cx w B g a1 c1 x) (hy : Cx w B h a2 c2 y) (ho : Only w w' (cxS h a2)) (hgh : g ≠ h) (hap : ∀ a b, a1 = some a → a2 = some b → a.block ≠ b.block) : Cx w' B g a1 c1 x := by
  refine hx.only ho ?_ ?_
  · rintro (e | ⟨q, hq, e⟩)
    · exact hgh e
    · subst hq
      exact row_ne hy.mem hx.box e.symm
  · intro a ha
    rintro (e | ⟨q, hq, e⟩)
    · subst ha
      exact row_ne hx.mem hy.box e
    · exact hap a q ha hq e
theorem run_le (code : List Ins) : ∀ (m : Nat) (x : Ctx), (runE code m x).1 ≤ m
  | 0, _ => Nat.le_refl _
  | m + 1, x => by
    unfold runE
    split
    · split
      · have := run_le code m (doC x (code.getD x.pl.toNat ins0))
        simp only
        omega
      · exact Nat.zero_le _
    · exact Nat.zero_le _
theorem run_fits (code : List Ins) (hc : ∀ i ∈ code, InsFits i) : ∀ (m : Nat) (x : Ctx), CtxFits x → CtxFits (runE code m x).2.1
  | 0, _, h => h
  | m + 1, x, h => by
    unfold runE
    split
    · rename_i hin
      split
      · refine run_fits code hc m _ (h.does ?_)
        have hp : x.pl.toNat < code.length := by omega
        rw [getD_at hp]
        exact (hc _ (List.getElem_mem hp)).k
      · exact h
    · exact h
/-- A program of so many, and so many more. -/
theorem run_add (code : List Ins) (b : Nat) : ∀ (a : Nat) (x : Ctx), runE code (a + b) x = if (runE code a x).2.2 = 0 then ((runE code a x).1 + (runE code b (runE code a x).2.1).1, (runE code b (runE code a x).2.1).2) else runE code a x
  | 0, x => by
    rw [Nat.zero_add]
    simp [runE]
  | a + 1, x => by
    rw [Nat.add_right_comm]
    by_cases hin : 0 ≤ x.pl ∧ x.pl < (code.length : Int)
    · by_cases he : doE x (code.getD x.pl.toNat ins0) = 0
      · simp only [runE, if_pos hin, if_pos he, run_add code b a]
        split
        · simp only [Nat.add_right_comm]
        · rfl
      · simp only [runE, if_pos hin, if_neg he]
    · have h0 : ∀ n, runE code n x = (0, x, 0) := fun n => by
        cases n with
        | zero => rfl
        | succ n => simp only [runE, if_neg hin]
      rw [h0, h0, h0]
      simp

/-- What stands while two copies are made and stored: p tells what is done (1, 3: the copies; 4, 5: the blocks; 6, 7: the stores). -/
def TwoX (D : Nat) (c : Ctx) (p : Nat → Bool) (xa xb ga gb : Value) (w : World) : Prop :=
  ∃ (y1 y2 : CxV) (g h : Nat), (p 1 = true → xa = cyV y1 ∧ y1.x = c ∧ OwnY w D y1) ∧ (p 3 = true → xb = cyV y2 ∧ y2.x = c ∧ OwnY w D y2) ∧ (p 1 = true → p 3 = true → ApartY y1 y2) ∧
    (p 4 = true → ga = .pointer (some ⟨g, 0, none⟩) ∧ FBox w D g) ∧ (p 5 = true → gb = .pointer (some ⟨h, 0, none⟩) ∧ FBox w D h) ∧ (p 4 = true → p 5 = true → g ≠ h) ∧
    (p 1 = true → p 4 = true → p 6 = true → w.heap[g]? = some (cyO y1)) ∧ (p 3 = true → p 5 = true → p 7 = true → w.heap[h]? = some (cyO y2))
theorem cyO_of {y z : CxV} (h : cyV y = cyV z) : cyO y = cyO z := by
  unfold cyV cxV at h
  unfold cyO cxO
  simp only [Value.agg.injEq] at h
  rw [h]
/-- Nothing that matters is done, and no stored block is turned. -/
theorem TwoX.same {D : Nat} {c : Ctx} {p q : Nat → Bool} {xa xb ga gb : Value} {w w' : World} (h : TwoX D c p xa xb ga gb w) (hb : Below w.heap.size w w') (hq : q 1 = p 1 ∧ q 3 = p 3 ∧ q 4 = p 4 ∧ q 5 = p 5 ∧ q 6 = p 6 ∧ q 7 = p 7) : TwoX D c q xa xb ga gb w' := by
  obtain ⟨y1, y2, g, h, a1, a2, a3, a4, a5, a6, a7, a8⟩ := h
  obtain ⟨q1, q3, q4, q5, q6, q7⟩ := hq
  refine ⟨y1, y2, g, h, ?_, ?_, ?_, ?_, ?_, ?_, ?_, ?_⟩
  · rw [q1]; intro e; exact ⟨(a1 e).1, (a1 e).2.1, (a1 e).2.2.below hb⟩
  · rw [q3]; intro e; exact ⟨(a2 e).1, (a2 e).2.1, (a2 e).2.2.below hb⟩
  · rw [q1, q3]; exact a3
  · rw [q4]; intro e; exact ⟨(a4 e).1, (a4 e).2.step' (.inl hb)⟩
  · rw [q5]; intro e; exact ⟨(a5 e).1, (a5 e).2.step' (.inl hb)⟩
  · rw [q4, q5]; exact a6
  · rw [q1, q4, q6]; intro e1 e2 e3; exact blk_on hb (a7 e1 e2 e3)
  · rw [q3, q5, q7]; intro e1 e2 e3; exact blk_on hb (a8 e1 e2 e3)
/-- The first copy is made. -/
theorem TwoX.call1 {D : Nat} {c : Ctx} {p q : Nat → Bool} {xa xb ga gb v : Value} {w w' : World} {y : CxV} (h : TwoX D c p xa xb ga gb w) (hb : Below w.heap.size w w') (hq : q 3 = p 3 ∧ q 4 = p 4 ∧ q 5 = p 5 ∧ q 6 = p 6 ∧ q 7 = p 7) (h6 : p 6 = false) (hv : v = cyV y) (hc : y.x = c) (ho : OwnY w' w.heap.size y) (hD : D ≤ w.heap.size) :
    TwoX D c q v xb ga gb w' := by
  obtain ⟨y1, y2, g, h, a1, a2, a3, a4, a5, a6, a7, a8⟩ := h
  obtain ⟨q3, q4, q5, q6, q7⟩ := hq
  refine ⟨y, y2, g, h, fun _ => ⟨hv, hc, ho.mono hD⟩, ?_, ?_, ?_, ?_, ?_, ?_, ?_⟩
  · rw [q3]; intro e; exact ⟨(a2 e).1, (a2 e).2.1, (a2 e).2.2.below hb⟩
  · rw [q3]; intro _ e a b ha hb'
    have h1 := (ho.addr ha).1
    have h2 := ((a2 e).2.2.addr hb').2
    omega
  · rw [q4]; intro e; exact ⟨(a4 e).1, (a4 e).2.step' (.inl hb)⟩
  · rw [q5]; intro e; exact ⟨(a5 e).1, (a5 e).2.step' (.inl hb)⟩
  · rw [q4, q5]; exact a6
  · rw [q6, h6]; intro _ _ e; cases e
  · rw [q3, q5, q7]; intro e1 e2 e3; exact blk_on hb (a8 e1 e2 e3)
theorem TwoX.call3 {D : Nat} {c : Ctx} {p q : Nat → Bool} {xa xb ga gb v : Value} {w w' : World} {y : CxV} (h : TwoX D c p xa xb ga gb w) (hb : Below w.heap.size w w') (hq : q 1 = p 1 ∧ q 4 = p 4 ∧ q 5 = p 5 ∧ q 6 = p 6 ∧ q 7 = p 7) (h7 : p 7 = false) (hv : v = cyV y) (hc : y.x = c) (ho : OwnY w' w.heap.size y) (hD : D ≤ w.heap.size) :
    TwoX D c q xa v ga gb w' := by
  obtain ⟨y1, y2, g, h, a1, a2, a3, a4, a5, a6, a7, a8⟩ := h
  obtain ⟨q1, q4, q5, q6, q7⟩ := hq
  refine ⟨y1, y, g, h, ?_, fun _ => ⟨hv, hc, ho.mono hD⟩, ?_, ?_, ?_, ?_, ?_, ?_⟩
  · rw [q1]; intro e; exact ⟨(a1 e).1, (a1 e).2.1, (a1 e).2.2.below hb⟩
  · rw [q1]; intro e _ a b ha hb'
    have h1 := (ho.addr hb').1
    have h2 := ((a1 e).2.2.addr ha).2
    omega
  · rw [q4]; intro e; exact ⟨(a4 e).1, (a4 e).2.step' (.inl hb)⟩
  · rw [q5]; intro e; exact ⟨(a5 e).1, (a5 e).2.step' (.inl hb)⟩
  · rw [q4, q5]; exact a6
  · rw [q1, q4, q6]; intro e1 e2 e3; exact blk_on hb (a7 e1 e2 e3)
  · rw [q7, h7]; intro _ _ e; cases e
/-- A block is made. -/
theorem TwoX.new4 {D : Nat} {c : Ctx} {p q : Nat → Bool} {xa xb ga gb : Value} {w w' : World} (h : TwoX D c p xa xb ga gb w) (hb : Below w.heap.size w w') (hq : q 1 = p 1 ∧ q 3 = p 3 ∧ q 5 = p 5 ∧ q 6 = p 6 ∧ q 7 = p 7) (h6 : p 6 = false) (hn : FBox w' D w.heap.size) :
    TwoX D c q xa xb (.pointer (some ⟨w.heap.size, 0, none⟩)) gb w' := by
  obtain ⟨y1, y2, g, h, a1, a2, a3, a4, a5, a6, a7, a8⟩ := h
  obtain ⟨q1, q3, q5, q6, q7⟩ := hq
  refine ⟨y1, y2, w.heap.size, h, ?_, ?_, ?_, fun _ => ⟨rfl, hn⟩, ?_, ?_, ?_, ?_⟩
  · rw [q1]; intro e; exact ⟨(a1 e).1, (a1 e).2.1, (a1 e).2.2.below hb⟩
  · rw [q3]; intro e; exact ⟨(a2 e).1, (a2 e).2.1, (a2 e).2.2.below hb⟩
  · rw [q1, q3]; exact a3
  · rw [q5]; intro e; exact ⟨(a5 e).1, (a5 e).2.step' (.inl hb)⟩
  · rw [q5]; intro _ e; have := (a5 e).2.lt; omega
  · rw [q6, h6]; intro _ _ e; cases e
  · rw [q3, q5, q7]; intro e1 e2 e3; exact blk_on hb (a8 e1 e2 e3)
theorem TwoX.new5 {D : Nat} {c : Ctx} {p q : Nat → Bool} {xa xb ga gb : Value} {w w' : World} (h : TwoX D c p xa xb ga gb w) (hb : Below w.heap.size w w') (hq : q 1 = p 1 ∧ q 3 = p 3 ∧ q 4 = p 4 ∧ q 6 = p 6 ∧ q 7 = p 7) (h7 : p 7 = false) (hn : FBox w' D w.heap.size) :
    TwoX D c q xa xb ga (.pointer (some ⟨w.heap.size, 0, none⟩)) w' := by
  obtain ⟨y1, y2, g, h, a1, a2, a3, a4, a5, a6, a7, a8⟩ := h
  obtain ⟨q1, q3, q4, q6, q7⟩ := hq
  refine ⟨y1, y2, g, w.heap.size, ?_, ?_, ?_, ?_, fun _ => ⟨rfl, hn⟩, ?_, ?_, ?_⟩
  · rw [q1]; intro e; exact ⟨(a1 e).1, (a1 e).2.1, (a1 e).2.2.below hb⟩
  · rw [q3]; intro e; exact ⟨(a2 e).1, (a2 e).2.1, (a2 e).2.2.below hb⟩
  · rw [q1, q3]; exact a3
  · rw [q4]; intro e; exact ⟨(a4 e).1, (a4 e).2.step' (.inl hb)⟩
  · rw [q4]; intro e _; have := (a4 e).2.lt; omega
  · rw [q1, q4, q6]; intro e1 e2 e3; exact blk_on hb (a7 e1 e2 e3)
  · rw [q7, h7]; intro _ _ e; cases e

/-- A copy is stored. -/
theorem TwoX.store6 {D : Nat} {c : Ctx} {p q : Nat → Bool} {xa xb ga gb : Value} {w : World} {y : CxV} {g : Nat} (hr : y.x.regs.length = 8) (h : TwoX D c p xa xb ga gb w) (hq : q 1 = p 1 ∧ q 3 = p 3 ∧ q 4 = p 4 ∧ q 5 = p 5 ∧ q 7 = p 7) (h1 : p 1 = true) (h4 : p 4 = true) (hx : xa = cyV y) (hg : ga = .pointer (some ⟨g, 0, none⟩)) (hb : FBox w D g) :
    TwoX D c q xa xb ga gb (cySt w g y) := by
  obtain ⟨y1, y2, g', h, a1, a2, a3, a4, a5, a6, a7, a8⟩ := h
  obtain ⟨q1, q3, q4, q5, q7⟩ := hq
  have hs : StY D w (cySt w g y) := .inr ⟨g, y, hr, hb, rfl⟩
  have eg : g = g' := by
    have := (a4 h4).1
    rw [hg] at this
    simpa using this
  subst eg
  have ey : cyO y = cyO y1 := cyO_of (hx.symm.trans (a1 h1).1)
  refine ⟨y1, y2, g, h, ?_, ?_, ?_, ?_, ?_, ?_, ?_, ?_⟩
  · rw [q1]; intro e; exact ⟨(a1 e).1, (a1 e).2.1, (a1 e).2.2.step hs⟩
  · rw [q3]; intro e; exact ⟨(a2 e).1, (a2 e).2.1, (a2 e).2.2.step hs⟩
  · rw [q1, q3]; exact a3
  · rw [q4]; intro e; exact ⟨(a4 e).1, (a4 e).2.step' hs⟩
  · rw [q5]; intro e; exact ⟨(a5 e).1, (a5 e).2.step' hs⟩
  · rw [q4, q5]; exact a6
  · intro _ _ _; rw [cySt_at y hr hb, ey]
  · rw [q3, q5, q7]; intro e1 e2 e3
    rw [(cySt_only w g y).block h (a5 e2).2.lt (fun e => a6 h4 e2 e.symm)]
    exact a8 e1 e2 e3
theorem TwoX.store7 {D : Nat} {c : Ctx} {p q : Nat → Bool} {xa xb ga gb : Value} {w : World} {y : CxV} {g : Nat} (hr : y.x.regs.length = 8) (h : TwoX D c p xa xb ga gb w) (hq : q 1 = p 1 ∧ q 3 = p 3 ∧ q 4 = p 4 ∧ q 5 = p 5 ∧ q 6 = p 6) (h3 : p 3 = true) (h5 : p 5 = true) (hx : xb = cyV y) (hg : gb = .pointer (some ⟨g, 0, none⟩)) (hb : FBox w D g) :
    TwoX D c q xa xb ga gb (cySt w g y) := by
  obtain ⟨y1, y2, g', h, a1, a2, a3, a4, a5, a6, a7, a8⟩ := h
  obtain ⟨q1, q3, q4, q5, q6⟩ := hq
  have hs : StY D w (cySt w g y) := .inr ⟨g, y, hr, hb, rfl⟩
  have eg : g = h := by
    have := (a5 h5).1
    rw [hg] at this
    simpa using this
  subst eg
  have ey : cyO y = cyO y2 := cyO_of (hx.symm.trans (a2 h3).1)
  refine ⟨y1, y2, g', g, ?_, ?_, ?_, ?_, ?_, ?_, ?_, ?_⟩
  · rw [q1]; intro e; exact ⟨(a1 e).1, (a1 e).2.1, (a1 e).2.2.step hs⟩
  · rw [q3]; intro e; exact ⟨(a2 e).1, (a2 e).2.1, (a2 e).2.2.step hs⟩
  · rw [q1, q3]; exact a3
  · rw [q4]; intro e; exact ⟨(a4 e).1, (a4 e).2.step' hs⟩
  · rw [q5]; intro e; exact ⟨(a5 e).1, (a5 e).2.step' hs⟩
  · rw [q4, q5]; exact a6
  · rw [q1, q4, q6]; intro e1 e2 e3
    rw [(cySt_only w g y).block g' (a4 e2).2.lt (fun e => a6 e2 h5 e)]
    exact a7 e1 e2 e3
  · intro _ _ _; rw [cySt_at y hr hb, ey]

/-- What is known of the values: the system, a copy, the system, a copy, a block, a block. -/
def twoY (D : Nat) (x : CxV) : List (Value → World → Prop) :=
  [fun v _ => v = cyV x, fun v u => ∃ y, v = cyV y ∧ y.x = x.x ∧ OwnY u D y, fun v _ => v = cyV x, fun v u => ∃ y, v = cyV y ∧ y.x = x.x ∧ OwnY u D y,
    fun v u => ∃ g, v = .pointer (some ⟨g, 0, none⟩) ∧ FBox u D g, fun v u => ∃ g, v = .pointer (some ⟨g, 0, none⟩) ∧ FBox u D g, fun _ _ => True, fun _ _ => True]
theorem twoY_step {D : Nat} {x : CxV} (j : Nat) (v : Value) (u u' : World) (hg : StY D u u') (h : ((twoY D x).getD j (fun _ _ => True)) v u) : ((twoY D x).getD j (fun _ _ => True)) v u' := by
  rcases j with _ | _ | _ | _ | _ | _ | _ | _ | j
  · exact h
  · obtain ⟨y, e, e2, ho⟩ := h; exact ⟨y, e, e2, ho.step hg⟩
  · exact h
  · obtain ⟨y, e, e2, ho⟩ := h; exact ⟨y, e, e2, ho.step hg⟩
  · obtain ⟨g, e, hb⟩ := h; exact ⟨g, e, hb.step' hg⟩
  · obtain ⟨g, e, hb⟩ := h; exact ⟨g, e, hb.step' hg⟩
  · trivial
  · trivial
  · trivial
theorem twoX_start (D : Nat) (x : CxV) (xa xb ga gb : Value) (u : World) : TwoX D x.x (fun j => (Array.replicate 8 false).getD j false) xa xb ga gb u := by
  have hz : ∀ j, (Array.replicate 8 false).getD j false = false := by
    intro j
    rw [Array.getD_eq_getD_getElem?, Array.getElem?_replicate]
    split <;> rfl
  have hf : ∀ j, ¬ (fun j => (Array.replicate 8 false).getD j false) j = true := fun j h => by rw [show (fun j => (Array.replicate 8 false).getD j false) j = (Array.replicate 8 false).getD j false from rfl, hz] at h; cases h
  exact ⟨x, x, 0, 0, fun h => absurd h (hf 1), fun h => absurd h (hf 3), fun h => absurd h (hf 1), fun h => absurd h (hf 4), fun h => absurd h (hf 5), fun h => absurd h (hf 4), fun h => absurd h (hf 1), fun h => absurd h (hf 3)⟩
/-- What stands behind both. -/
theorem TwoX.done {D : Nat} {c : Ctx} {l : Array Bool} {xa xb ga gb : Value} {w : World} (h : TwoX D c (fun j => l.getD j false) xa xb ga gb w) (hl : ∀ j, l.getD j true = true) (hn : l.size = 8) :
    ∃ (y1 y2 : CxV) (g h : Nat), ga = .pointer (some ⟨g, 0, none⟩) ∧ gb = .pointer (some ⟨h, 0, none⟩) ∧ y1.x = c ∧ OwnY w D y1 ∧ y2.x = c ∧ OwnY w D y2 ∧ ApartY y1 y2 ∧ D ≤ g ∧ D ≤ h ∧ g ≠ h ∧ w.heap[g]? = some (cyO y1) ∧ w.heap[h]? = some (cyO y2) := by
  have hl' : ∀ j, j < 8 → l.getD j false = true := fun j hj => by rw [getD_bool l j (by rw [hn]; exact hj) false true]; exact hl j
  obtain ⟨y1, y2, g, h, a1, a2, a3, a4, a5, a6, a7, a8⟩ := h
  obtain ⟨-, hc1, ho1⟩ := a1 (hl' 1 (by decide))
  obtain ⟨-, hc2, ho2⟩ := a2 (hl' 3 (by decide))
  obtain ⟨eg, hb1⟩ := a4 (hl' 4 (by decide))
  obtain ⟨eh, hb2⟩ := a5 (hl' 5 (by decide))
  exact ⟨y1, y2, g, h, eg, eh, hc1, ho1, hc2, ho2, a3 (hl' 1 (by decide)) (hl' 3 (by decide)), hb1.1, hb2.1, a6 (hl' 4 (by decide)) (hl' 5 (by decide)),
    a7 (hl' 1 (by decide)) (hl' 4 (by decide)) (hl' 6 (by decide)), a8 (hl' 3 (by decide)) (hl' 5 (by decide)) (hl' 7 (by decide))⟩

end Go.Proofs.YtoalgajbahlpjaaDoor
