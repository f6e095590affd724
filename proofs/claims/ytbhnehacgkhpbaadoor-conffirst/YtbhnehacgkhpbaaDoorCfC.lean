/-
  Systems of one's own: the rows that a copy makes, what stays where other blocks are turned; copies of a list, over this seat's translation. Conditions: lists of at most 1000000 elements.
-/
import Derived.Test.YtbhnehacgkhpbaaDoorCfL
import Derived.Test.YtbhnehacgkhpbaaDoorRel4
namespace Go.Proofs.YtbhnehacgkhpbaaDoor
open Go Go.RowKit
set_option linter.unusedVariables false
set_option linter.unusedSimpArgs false

/-- What kind of block it is. -/
def Kind (w : World) (k : Nat) (ty : TypeId) : Prop := ∃ cs, w.heap[k]? = some (.cells cs ty (0, 0))
theorem Kind.one {w : World} {k : Nat} {a b : TypeId} (h : Kind w k a) (g : Kind w k b) : a = b := by
  obtain ⟨cs, h⟩ := h
  obtain ⟨ds, g⟩ := g
  rw [h] at g
  simp only [Option.some.injEq, Obj.cells.injEq] at g
  exact g.2.1
theorem kind_of {w : World} {k : Nat} {cs : Array Value} {ty : TypeId} (h : w.heap[k]? = some (.cells cs ty (0, 0))) : Kind w k ty := ⟨cs, h⟩
/-- A row of one's own stays where blocks of another kind are turned. -/
theorem OwnR.keep {α : Type} {ty ty' : TypeId} {n : Nat} {f : α → List Value} {w w1 : World} {B : Nat} {v : Value} {l : List α} {S : Nat → Prop} (h : OwnR ty n f w B v l) (ho : Only w w1 S) (hS : ∀ k, S k → Kind w k ty') (hne : ty ≠ ty') : OwnR ty n f w1 B v l :=
  h.only ho (fun k hk hs => hne ((h.kind hk).elim fun cs hc => Kind.one ⟨cs, hc⟩ (hS k hs)))

abbrev OwnTR (w : World) (B : Nat) (v : Value) (l : List TskV) : Prop := OwnR 39 6 tsk6 w B v l
abbrev OwnLR (w : World) (B : Nat) (v : Value) (l : List LinV) : Prop := OwnR 43 2 lin2 w B v l
abbrev OwnZR (w : World) (B : Nat) (v : Value) (l : List Int) : Prop := OwnR 3 1 num1 w B v l
abbrev OwnIR (w : World) (B : Nat) (v : Value) (l : List Ins) : Prop := OwnR 41 6 in6 w B v l

theorem seenI_r {w : World} {ao : Option Addr} {cap : Nat} {l : List Ins} (h : SeenI w ao cap l) : SeenR 6 in6 w ao cap l := by
  refine ⟨h.mx, h.lc, h.nn, fun i hi => ?_⟩
  obtain ⟨b, off, h1, h2, h3⟩ := h.row i hi
  exact ⟨b, off, h1, h2, fun j hj d hd => (h3 j hj).list d hd⟩
theorem seenI_of {w : World} {ao : Option Addr} {cap : Nat} {l : List Ins} (h : SeenR 6 in6 w ao cap l) : SeenI w ao cap l := by
  refine ⟨h.mx, h.lc, h.nn, fun i hi => ?_⟩
  obtain ⟨b, off, h1, h2, h3⟩ := h.row i hi
  exact ⟨b, off, h1, h2, fun j hj => ⟨h3 j hj 0 (by omega), h3 j hj 1 (by omega), h3 j hj 2 (by omega), h3 j hj 3 (by omega), h3 j hj 4 (by omega), h3 j hj 5 (by omega)⟩⟩
theorem OwnR.seenI {w : World} {B : Nat} {ao : Option Addr} {n cap : Nat} {l : List Ins} (h : OwnIR w B (.slice ao n cap) l) : SeenI w ao cap l ∧ n = l.length := by
  obtain ⟨ao', cap', e, s, -⟩ := OwnR.seen in6_len h
  simp only [Value.slice.injEq] at e
  obtain ⟨rfl, rfl, rfl⟩ := e
  exact ⟨seenI_of s, rfl⟩
theorem OwnR.seen' {α : Type} {ty : TypeId} {n : Nat} {f : α → List Value} {w : World} {B : Nat} {l : List α} {ao : Option Addr} {m cap : Nat} (hf : ∀ x, (f x).length = n) (h : OwnR ty n f w B (.slice ao m cap) l) : SeenR n f w ao cap l := by
  obtain ⟨ao', cap', e, s, -⟩ := h.seen hf
  simp only [Value.slice.injEq] at e
  obtain ⟨rfl, rfl, rfl⟩ := e
  exact s

/-- The program of a task or a line is one's own. -/
def CodeT (w : World) (B : Nat) (e : TskV) : Prop := OwnIR w B (.slice e.ao e.t.code.length e.cap) e.t.code
def CodeL (w : World) (B : Nat) (e : LinV) : Prop := OwnIR w B (.slice e.ao e.t.code.length e.cap) e.t.code

/-- A system of one's own. -/
structure OwnC (w : World) (B : Nat) (y : CfgV) : Prop where
  ts : OwnTR w B (.slice y.tao y.tasks.length y.tcap) y.tasks
  tc : ∀ e ∈ y.tasks, CodeT w B e
  ls : OwnLR w B (.slice y.lao y.lines.length y.lcap) y.lines
  lc : ∀ e ∈ y.lines, CodeL w B e
  ss : OwnZR w B (.slice y.sao y.sems.length y.scap) y.sems
  qs : OwnZR w B (.slice y.qao y.queues.length y.qcap) y.queues
  ms : OwnZR w B (.slice y.mao y.timers.length y.mcap) y.timers
theorem OwnC.seen {w : World} {B : Nat} {y : CfgV} (h : OwnC w B y) : SeenC w y :=
  ⟨⟨h.ts.seen' tsk6_len, fun e he => (h.tc e he).seenI.1⟩, ⟨h.ls.seen' lin2_len, fun e he => (h.lc e he).seenI.1⟩, h.ss.seen' num1_len, h.qs.seen' num1_len, h.ms.seen' num1_len⟩
theorem OwnC.below {w w1 : World} {B : Nat} {y : CfgV} (h : OwnC w B y) (hb : Below w.heap.size w w1) : OwnC w1 B y :=
  ⟨h.ts.below hb, fun e he => OwnR.below (h.tc e he) hb, h.ls.below hb, fun e he => OwnR.below (h.lc e he) hb, h.ss.below hb, h.qs.below hb, h.ms.below hb⟩
theorem OwnC.keep {w w1 : World} {B : Nat} {y : CfgV} {S : Nat → Prop} (h : OwnC w B y) (ho : Only w w1 S) (hS : ∀ k, S k → Kind w k 28) : OwnC w1 B y :=
  ⟨h.ts.keep ho hS (by decide), fun e he => OwnR.keep (h.tc e he) ho hS (by decide), h.ls.keep ho hS (by decide), fun e he => OwnR.keep (h.lc e he) ho hS (by decide), h.ss.keep ho hS (by decide), h.qs.keep ho hS (by decide), h.ms.keep ho hS (by decide)⟩
/-- All its blocks lie from B on, below the end. -/
theorem OwnC.keepB {w w1 : World} {B : Nat} {y : CfgV} {S : Nat → Prop} (h : OwnC w B y) (ho : Only w w1 S) (hS : ∀ k, B ≤ k → k < w.heap.size → ¬ S k) : OwnC w1 B y :=
  ⟨h.ts.only ho (fun k hk => hS k (h.ts.lt k hk).1 (h.ts.lt k hk).2), fun e he => OwnR.only (h.tc e he) ho (fun k hk => hS k (OwnR.lt (h.tc e he) k hk).1 (OwnR.lt (h.tc e he) k hk).2),
   h.ls.only ho (fun k hk => hS k (h.ls.lt k hk).1 (h.ls.lt k hk).2), fun e he => OwnR.only (h.lc e he) ho (fun k hk => hS k (OwnR.lt (h.lc e he) k hk).1 (OwnR.lt (h.lc e he) k hk).2),
   h.ss.only ho (fun k hk => hS k (h.ss.lt k hk).1 (h.ss.lt k hk).2), h.qs.only ho (fun k hk => hS k (h.qs.lt k hk).1 (h.qs.lt k hk).2), h.ms.only ho (fun k hk => hS k (h.ms.lt k hk).1 (h.ms.lt k hk).2)⟩

/-! ### Copies of lists -/

theorem Tryd.infoTsk : (Tryd.prog.info? 39).map (fun i => (i.zero, i.size, i.bytes)) = some (some (.agg #[.int .i64 0, .int .i64 0, .int .i64 0, .int .i64 0, .int .i64 0, .slice none 0 0]), 6, 64) := by kernel_rfl
theorem Tryd.infoLin : (Tryd.prog.info? 43).map (fun i => (i.zero, i.size, i.bytes)) = some (some (.agg #[.int .i64 0, .slice none 0 0]), 2, 32) := by kernel_rfl
theorem Tryd.infoInt : (Tryd.prog.info? 3).map (fun i => (i.zero, i.size, i.bytes)) = some (some (.int .i64 0), 1, 8) := by kernel_rfl
theorem info_of {ty : TypeId} {z : Value} {n b : Nat} (h : (Tryd.prog.info? ty).map (fun i => (i.zero, i.size, i.bytes)) = some (some z, n, b)) : ∃ i, Tryd.prog.info? ty = some i ∧ i.zero = some z ∧ i.size = n ∧ i.bytes = b := by
  cases hi : Tryd.prog.info? ty with
  | none => rw [hi] at h; cases h
  | some i =>
    rw [hi] at h
    simp only [Option.map_some, Option.some.injEq, Prod.mk.injEq] at h
    exact ⟨i, rfl, h.1, h.2.1, h.2.2⟩

set_option maxRecDepth 100000 in
theorem copyt_any (ao : Option Addr) (cap : Nat) (l : List TskV) (w : World) (hs : SeenR 6 tsk6 w ao cap l) (hn : l.length ≤ 1000000) :
    Calls Tryd.prog 20 #[.slice ao l.length cap] w fun r w' => ∃ bo bc, r = .returned (.slice bo l.length bc) ∧ OwnTR w' w.heap.size (.slice bo l.length bc) l ∧ Below w.heap.size w w' := by
  obtain ⟨i0, hi, hz0, hz1, hz2⟩ := info_of Tryd.infoTsk
  have H := Lib.hid hs
  have Hn := Lib.hid hn
  clear hs hn
  go_enter Tryd.func20, Tryd.ntmps20
  go_wp2_with (at_builtin; refine wpList_copyR Tryd.underlying22 hi hz0 hz1 hz2 rfl (by decide) tsk6_len tsk6_one rfl _ _ rfl rfl ao cap l rfl H.out (by have := Hn.out; omega) ?_)
  intro bo bc w' h1 h2
  have HR := Lib.hid (And.intro h1 h2)
  clear h1 h2
  go_wp2
  go_ret
  exact ⟨bo, bc, rfl, HR.out.1, HR.out.2⟩
set_option maxRecDepth 100000 in
theorem copyl_any (ao : Option Addr) (cap : Nat) (l : List LinV) (w : World) (hs : SeenR 2 lin2 w ao cap l) (hn : l.length ≤ 1000000) :
    Calls Tryd.prog 22 #[.slice ao l.length cap] w fun r w' => ∃ bo bc, r = .returned (.slice bo l.length bc) ∧ OwnLR w' w.heap.size (.slice bo l.length bc) l ∧ Below w.heap.size w w' := by
  obtain ⟨i0, hi, hz0, hz1, hz2⟩ := info_of Tryd.infoLin
  have H := Lib.hid hs
  have Hn := Lib.hid hn
  clear hs hn
  go_enter Tryd.func22, Tryd.ntmps22
  go_wp2_with (at_builtin; refine wpList_copyR Tryd.underlying23 hi hz0 hz1 hz2 rfl (by decide) lin2_len lin2_one rfl _ _ rfl rfl ao cap l rfl H.out (by have := Hn.out; omega) ?_)
  intro bo bc w' h1 h2
  have HR := Lib.hid (And.intro h1 h2)
  clear h1 h2
  go_wp2
  go_ret
  exact ⟨bo, bc, rfl, HR.out.1, HR.out.2⟩
set_option maxRecDepth 100000 in
theorem copyi_any (ao : Option Addr) (cap : Nat) (l : List Ins) (w : World) (hs : SeenI w ao cap l) (hn : l.length ≤ 1000000) :
    Calls Tryd.prog 21 #[.slice ao l.length cap] w fun r w' => ∃ bo bc, r = .returned (.slice bo l.length bc) ∧ OwnIR w' w.heap.size (.slice bo l.length bc) l ∧ Below w.heap.size w w' := by
  obtain ⟨i0, hi, hz0, hz1, hz2⟩ := Tryd.infoIns3
  have H := Lib.hid (seenI_r hs)
  have Hn := Lib.hid hn
  clear hs hn
  go_enter Tryd.func21, Tryd.ntmps21
  go_wp2_with (at_builtin; refine wpList_copyR Tryd.underlying37 hi hz0 hz1 hz2 rfl (by decide) in6_len in6_one rfl _ _ rfl rfl ao cap l rfl H.out (by have := Hn.out; omega) ?_)
  intro bo bc w' h1 h2
  have HR := Lib.hid (And.intro h1 h2)
  clear h1 h2
  go_wp2
  go_ret
  exact ⟨bo, bc, rfl, HR.out.1, HR.out.2⟩
set_option maxRecDepth 100000 in
theorem copyn_any (ao : Option Addr) (cap : Nat) (l : List Int) (w : World) (hs : SeenZ w ao cap l) (hn : l.length ≤ 1000000) :
    Calls Tryd.prog 23 #[.slice ao l.length cap] w fun r w' => ∃ bo bc, r = .returned (.slice bo l.length bc) ∧ OwnZR w' w.heap.size (.slice bo l.length bc) l ∧ Below w.heap.size w w' := by
  obtain ⟨i0, hi, hz0, hz1, hz2⟩ := info_of Tryd.infoInt
  have H := Lib.hid hs
  have Hn := Lib.hid hn
  clear hs hn
  go_enter Tryd.func23, Tryd.ntmps23
  go_wp2_with (at_builtin; refine wpList_copyR Tryd.underlying24 hi hz0 hz1 hz2 rfl (by decide) num1_len num1_one rfl _ _ rfl rfl ao cap l rfl H.out (by have := Hn.out; omega) ?_)
  intro bo bc w' h1 h2
  have HR := Lib.hid (And.intro h1 h2)
  clear h1 h2
  go_wp2
  go_ret
  exact ⟨bo, bc, rfl, HR.out.1, HR.out.2⟩

/-! ### Programs copied one by one -/

/-- The first programs of a row of tasks are copies; the others are as they came. -/
def CpT (w : World) (B : Nat) (v : Value) (xs : List TskV) (i : Nat) : Prop :=
  ∃ l : List TskV, l.length = xs.length ∧ OwnTR w B v l ∧ ∀ j e y, l[j]? = some e → xs[j]? = some y → e.t = y.t ∧ (j < i → CodeT w B e) ∧ (i ≤ j → e = y)
def CpL (w : World) (B : Nat) (v : Value) (xs : List LinV) (i : Nat) : Prop :=
  ∃ l : List LinV, l.length = xs.length ∧ OwnLR w B v l ∧ ∀ j e y, l[j]? = some e → xs[j]? = some y → e.t = y.t ∧ (j < i → CodeL w B e) ∧ (i ≤ j → e = y)
theorem cpT_start {w : World} {B : Nat} {v : Value} {xs : List TskV} (h : OwnTR w B v xs) : CpT w B v xs 0 :=
  ⟨xs, rfl, h, fun j e y h1 h2 => by rw [h1] at h2; cases h2; exact ⟨rfl, fun h => absurd h (by omega), fun _ => rfl⟩⟩
theorem cpL_start {w : World} {B : Nat} {v : Value} {xs : List LinV} (h : OwnLR w B v xs) : CpL w B v xs 0 :=
  ⟨xs, rfl, h, fun j e y h1 h2 => by rw [h1] at h2; cases h2; exact ⟨rfl, fun h => absurd h (by omega), fun _ => rfl⟩⟩
theorem CpT.keep {w w1 : World} {B : Nat} {v : Value} {xs : List TskV} {i : Nat} {S : Nat → Prop} {ty : TypeId} (h : CpT w B v xs i) (ho : Only w w1 S) (hS : ∀ k, S k → Kind w k ty) (h1 : 39 ≠ ty) (h2 : 41 ≠ ty) : CpT w1 B v xs i := by
  obtain ⟨l, hl, hr, ha⟩ := h
  exact ⟨l, hl, hr.keep ho hS h1, fun j e y g1 g2 => ⟨(ha j e y g1 g2).1, fun h => OwnR.keep ((ha j e y g1 g2).2.1 h) ho hS h2, (ha j e y g1 g2).2.2⟩⟩
theorem CpL.keep {w w1 : World} {B : Nat} {v : Value} {xs : List LinV} {i : Nat} {S : Nat → Prop} {ty : TypeId} (h : CpL w B v xs i) (ho : Only w w1 S) (hS : ∀ k, S k → Kind w k ty) (h1 : 43 ≠ ty) (h2 : 41 ≠ ty) : CpL w1 B v xs i := by
  obtain ⟨l, hl, hr, ha⟩ := h
  exact ⟨l, hl, hr.keep ho hS h1, fun j e y g1 g2 => ⟨(ha j e y g1 g2).1, fun h => OwnR.keep ((ha j e y g1 g2).2.1 h) ho hS h2, (ha j e y g1 g2).2.2⟩⟩
theorem CpT.below {w w1 : World} {B : Nat} {v : Value} {xs : List TskV} {i : Nat} (h : CpT w B v xs i) (hb : Below w.heap.size w w1) : CpT w1 B v xs i :=
  h.keep (Only.of_below hb (fun _ => False)) (fun k e => e.elim) (ty := 3) (by decide) (by decide)
theorem CpL.below {w w1 : World} {B : Nat} {v : Value} {xs : List LinV} {i : Nat} (h : CpL w B v xs i) (hb : Below w.heap.size w w1) : CpL w1 B v xs i :=
  h.keep (Only.of_below hb (fun _ => False)) (fun k e => e.elim) (ty := 3) (by decide) (by decide)

end Go.Proofs.YtbhnehacgkhpbaaDoor
