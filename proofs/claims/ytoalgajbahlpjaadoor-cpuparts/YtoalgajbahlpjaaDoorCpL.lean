/-
  Contexts in memory: the cells of one, a block that holds one, its memory's words as a slice. No condition.
-/
import Derived.Test.YtoalgajbahlpjaaDoorCp0
import Derived.Test.YtoalgajbahlpjaaDoorRw
import Derived.Test.YtoalgajbahlpjaaDoorInS
namespace Go.Proofs.YtoalgajbahlpjaaDoor
open Go Go.ChangeShapes Go.WideShapes Go.ChangeAt Go.RowKit
set_option linter.unusedVariables false
set_option linter.unusedSimpArgs false

def u32v (n : Nat) : Value := .int .u32 (n : Int)
def w1c (n : Nat) : List Value := [.int .u32 (n : Int)]
theorem w1c_len (x : Nat) : (w1c x).length = 1 := rfl
theorem w1c_one (x : Nat) : ∀ u ∈ w1c x, u.oneCell' = true := by
  intro u hu
  simp only [w1c, List.mem_cons, List.not_mem_nil, or_false] at hu
  subst hu; rfl
abbrev SeenW (w : World) (ao : Option Addr) (cap : Nat) (l : List Nat) : Prop := SeenR 1 w1c w ao cap l
abbrev OwnW (w : World) (B : Nat) (v : Value) (l : List Nat) : Prop := OwnR 22 1 w1c w B v l
theorem seenW_at {w : World} {ao : Option Addr} {cap : Nat} {l : List Nat} (h : SeenW w ao cap l) (i : Nat) (hi : i < l.length) : ∃ b off, ao = some ⟨b, off, none⟩ ∧ b < w.heap.size ∧ w.cell? ⟨b, off + i, none⟩ = some (.int .u32 ((l.getD i 0 : Nat) : Int)) := by
  obtain ⟨b, off, h1, h2, h3⟩ := h.at i hi
  have := h3 0 (by omega)
  rw [Nat.mul_one, Nat.add_zero] at this
  refine ⟨b, off, h1, h2, this.trans ?_⟩
  rw [List.getD_eq_getElem?_getD, List.getElem?_eq_getElem hi]
  rfl

/-- A context's cells, with its memory's slice. -/
def cxL (x : Ctx) (v : Value) : List Value := .int .i64 x.pl :: (x.regs.map u32v ++ [v])
def cxA (x : Ctx) (v : Value) : Array Value := (cxL x v).toArray
def cxV (x : Ctx) (v : Value) : Value := .agg (cxA x v)
def cxO (x : Ctx) (v : Value) : Obj := .cells (cxA x v) 26

theorem cxL_len {x : Ctx} (h : x.regs.length = 8) (v : Value) : (cxL x v).length = 10 := by simp [cxL, h]
theorem cxL_pl (x : Ctx) (v : Value) : (cxL x v)[0]? = some (.int .i64 x.pl) := rfl
theorem cxL_reg {x : Ctx} (h : x.regs.length = 8) (v : Value) (a : Nat) (ha : a < 8) : (cxL x v)[1 + a]? = some (.int .u32 ((x.regs.getD a 0 : Nat) : Int)) := by
  unfold cxL
  rw [Nat.add_comm, List.getElem?_cons_succ, List.getElem?_append_left (by simp [h]; exact ha), List.getElem?_map, List.getElem?_eq_getElem (by omega), List.getD_eq_getElem?_getD, List.getElem?_eq_getElem (by omega)]
  rfl
theorem cxL_mem {x : Ctx} (h : x.regs.length = 8) (v : Value) : (cxL x v)[9]? = some v := by
  unfold cxL
  rw [show 9 = 8 + 1 from rfl, List.getElem?_cons_succ, List.getElem?_append_right (by simp [h])]
  simp [h]
theorem cxL_setP (x : Ctx) (v : Value) (p : Int) : (cxL x v).set 0 (.int .i64 p) = cxL { x with pl := p } v := rfl
theorem cxL_setR {x : Ctx} (h : x.regs.length = 8) (v : Value) (a n : Nat) (ha : a < 8) : (cxL x v).set (1 + a) (.int .u32 (n : Int)) = cxL { x with regs := x.regs.set a n } v := by
  unfold cxL
  rw [Nat.add_comm, List.set_cons_succ, List.set_append_left _ _ (by simp [h]; exact ha)]
  simp only [List.map_set]
  rfl

/-- A block holds a context. -/
structure AtX (w : World) (b : Nat) (x : Ctx) (v : Value) : Prop where
  pl : w.cell? ⟨b, 0, none⟩ = some (.int .i64 x.pl)
  reg : ∀ a, a < 8 → w.cell? ⟨b, 1 + a, none⟩ = some (.int .u32 ((x.regs.getD a 0 : Nat) : Int))
  mem : w.cell? ⟨b, 9, none⟩ = some v
theorem cxcells {w : World} {b : Nat} {x : Ctx} {v : Value} (hr : x.regs.length = 8) (h : w.heap[b]? = some (cxO x v)) : AtX w b x v := by
  have key : ∀ j u, (cxL x v)[j]? = some u → w.cell? ⟨b, j, none⟩ = some u := by
    intro j u hj
    simp [World.cell?, h, cxO, cxA, hj]
  exact ⟨key _ _ (cxL_pl x v), fun a ha => key _ _ (cxL_reg hr v a ha), key _ _ (cxL_mem hr v)⟩
theorem froz10 {w : World} {b : Nat} {x : Ctx} {v : Value} (h : w.heap[b]? = some (cxO x v)) (j : Nat) : w.frozen? ⟨b, j, none⟩ = false := by
  simp [World.frozen?, h, cxO]
theorem stP {w : World} {b : Nat} {x : Ctx} {v : Value} (h : w.heap[b]? = some (cxO x v)) (p : Int) : (w.setCell ⟨b, 0, none⟩ (.int .i64 p)).heap[b]? = some (cxO { x with pl := p } v) := by
  rw [heap_setCell_same w b 0 _ _ _ h]
  unfold cxO cxA
  rw [List.setIfInBounds_toArray, cxL_setP]
theorem stR {w : World} {b : Nat} {x : Ctx} {v : Value} (hr : x.regs.length = 8) (h : w.heap[b]? = some (cxO x v)) (a n : Nat) (ha : a < 8) : (w.setCell ⟨b, 1 + a, none⟩ (.int .u32 (n : Int))).heap[b]? = some (cxO { x with regs := x.regs.set a n } v) := by
  rw [heap_setCell_same w b (1 + a) _ _ _ h]
  unfold cxO cxA
  rw [List.setIfInBounds_toArray, cxL_setR hr v a n ha]

/-- A context of one's own: block b, and its memory's row, from block B on, both its own. -/
structure Cx (w : World) (B b : Nat) (ao : Option Addr) (cap : Nat) (x : Ctx) : Prop where
  fits : CtxFits x
  box : w.heap[b]? = some (cxO x (.slice ao x.mem.length cap))
  bb : B ≤ b
  mem : OwnW w B (.slice ao x.mem.length cap) x.mem
  apart : ∀ a, ao = some a → a.block ≠ b

theorem Cx.lt {w : World} {B b cap : Nat} {ao : Option Addr} {x : Ctx} (h : Cx w B b ao cap x) : b < w.heap.size := blk_lt h.box
theorem Cx.at {w : World} {B b cap : Nat} {ao : Option Addr} {x : Ctx} (h : Cx w B b ao cap x) : AtX w b x (.slice ao x.mem.length cap) := cxcells h.fits.rl h.box
theorem Cx.below {w w1 : World} {B b cap : Nat} {ao : Option Addr} {x : Ctx} (h : Cx w B b ao cap x) (hb : Below w.heap.size w w1) : Cx w1 B b ao cap x :=
  ⟨h.fits, blk_on hb h.box, h.bb, h.mem.below hb, h.apart⟩
theorem Cx.seen {w : World} {B b cap : Nat} {ao : Option Addr} {x : Ctx} (h : Cx w B b ao cap x) : SeenW w ao cap x.mem := by
  obtain ⟨ao', cap', e, hs, -⟩ := h.mem.seen w1c_len
  cases e
  exact hs
/-- Which blocks a call may turn that has it. -/
def cxS (b : Nat) (ao : Option Addr) : Nat → Prop := fun k => k = b ∨ ∃ a, ao = some a ∧ k = a.block
theorem Cx.only {w w1 : World} {B b cap : Nat} {ao : Option Addr} {x : Ctx} {S : Nat → Prop} (h : Cx w B b ao cap x) (ho : Only w w1 S) (hb : ¬ S b) (ha : ∀ a, ao = some a → ¬ S a.block) : Cx w1 B b ao cap x := by
  refine ⟨h.fits, (ho.block b h.lt hb).trans h.box, h.bb, h.mem.only ho ?_, h.apart⟩
  intro k hk
  cases ao with
  | none => cases hk
  | some a =>
    obtain ⟨ao', cap', e, hs, hq⟩ := h.mem.seen w1c_len
    cases e
    have := (hq a rfl).2.2.1
    rw [hk] at this
    rw [Option.some.inj this]
    exact ha a rfl
theorem Cx.base {w : World} {B C b cap : Nat} {ao : Option Addr} {x : Ctx} (h : Cx w B b ao cap x) (hC : C ≤ B) : Cx w C b ao cap x := ⟨h.fits, h.box, by have := h.bb; omega, h.mem.mono hC, h.apart⟩
theorem Cx.row {w : World} {B b cap : Nat} {a : Addr} {x : Ctx} (h : Cx w B b (some a) cap x) : B ≤ a.block ∧ a.block < w.heap.size ∧ a = ⟨a.block, 0, none⟩ := by
  obtain ⟨ao', cap', e, hs, hq⟩ := h.mem.seen w1c_len
  cases e
  exact ⟨(hq a rfl).1, (hq a rfl).2.1, (hq a rfl).2.2.2⟩
/-- The place is set. -/
theorem Cx.setP {w : World} {B b cap : Nat} {ao : Option Addr} {x : Ctx} (h : Cx w B b ao cap x) {p : Int} (h1 : -9223372036854775808 ≤ p) (h2 : p ≤ 9223372036854775807) : Cx (w.setCell ⟨b, 0, none⟩ (.int .i64 p)) B b ao cap { x with pl := p } := by
  refine ⟨h.fits.pl h1 h2, stP h.box p, h.bb, ?_, h.apart⟩
  refine h.mem.only (Only.setCell w b 0 (.int .i64 p) (fun k => k = b) rfl) ?_
  intro k hk e
  cases ao with
  | none => cases hk
  | some a =>
    obtain ⟨ao', cap', e', hs, hq⟩ := h.mem.seen w1c_len
    cases e'
    have := (hq a rfl).2.2.1
    rw [hk] at this
    exact h.apart a rfl ((Option.some.inj this).symm.trans e)
/-- A register is set. -/
theorem Cx.setR {w : World} {B b cap : Nat} {ao : Option Addr} {x : Ctx} (h : Cx w B b ao cap x) (a n : Nat) (ha : a < 8) (hn : n < 4294967296) : Cx (w.setCell ⟨b, 1 + a, none⟩ (.int .u32 (n : Int))) B b ao cap { x with regs := x.regs.set a n } := by
  refine ⟨h.fits.setR a n hn, stR h.fits.rl h.box a n ha, h.bb, ?_, h.apart⟩
  refine h.mem.only (Only.setCell w b (1 + a) _ (fun k => k = b) rfl) ?_
  intro k hk e
  cases ao with
  | none => cases hk
  | some a =>
    obtain ⟨ao', cap', e', hs, hq⟩ := h.mem.seen w1c_len
    cases e'
    have := (hq a rfl).2.2.1
    rw [hk] at this
    exact h.apart a rfl ((Option.some.inj this).symm.trans e)
/-- A word is set. -/
theorem Cx.setM {w : World} {B b cap g : Nat} {x : Ctx} (h : Cx w B b (some ⟨g, 0, none⟩) cap x) (j n : Nat) (hj : j < x.mem.length) (hn : n < 4294967296) : Cx (w.setCell ⟨g, j, none⟩ (.int .u32 (n : Int))) B b (some ⟨g, 0, none⟩) cap { x with mem := x.mem.set j n } := by
  have hlen : (x.mem.set j n).length = x.mem.length := by simp
  refine ⟨h.fits.setM j n hn, ?_, h.bb, ?_, h.apart⟩
  · show _ = some (cxO x (.slice (some ⟨g, 0, none⟩) (x.mem.set j n).length cap))
    rw [hlen, heap_setCell_other w _ b _ (fun e => h.apart _ rfl (by exact e.symm))]
    exact h.box
  · show OwnW _ B (.slice (some ⟨g, 0, none⟩) (x.mem.set j n).length cap) (x.mem.set j n)
    rw [hlen]
    have := OwnR.set (ty := 22) (n := 1) (f := w1c) w1c_len h.mem j hj 0 (by omega) (.int .u32 (n : Int)) n rfl
    rw [Nat.mul_one, Nat.add_zero] at this
    exact this
theorem Cx.cellM {w : World} {B b cap : Nat} {ao : Option Addr} {x : Ctx} (h : Cx w B b ao cap x) (j : Nat) (hj : j < x.mem.length) : ∃ g, ao = some ⟨g, 0, none⟩ ∧ g < w.heap.size ∧ w.cell? ⟨g, j, none⟩ = some (.int .u32 ((word x j : Nat) : Int)) ∧ w.frozen? ⟨g, j, none⟩ = false := by
  obtain ⟨g, off, rfl, h2, h3⟩ := seenW_at h.seen j hj
  obtain ⟨-, -, e⟩ := h.row
  have e : (⟨g, off, none⟩ : Addr) = ⟨g, 0, none⟩ := e
  cases e
  rw [Nat.zero_add] at h3
  obtain ⟨cs, hc⟩ := h.mem.kind (k := g) rfl
  exact ⟨g, rfl, h2, h3, frozen_row hc j⟩

end Go.Proofs.YtoalgajbahlpjaaDoor
