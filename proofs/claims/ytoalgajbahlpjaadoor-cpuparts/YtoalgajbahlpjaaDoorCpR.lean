/-
  A context stored in a block while its memory's row lies elsewhere; a program's steps, one by one, as the statement's own loop takes them. No condition.
-/
import Derived.Test.YtoalgajbahlpjaaDoorCp7
import Derived.Test.YtoalgajbahlpjaaDoorCp6
import Derived.Test.YtoalgajbahlpjaaDoorCp14
namespace Go.Proofs.YtoalgajbahlpjaaDoor
open Go Go.RowKit
set_option linter.unusedVariables false
set_option linter.unusedSimpArgs false

/-- A block, from B on, that holds some context. -/
def FBox (u : World) (B g : Nat) : Prop := B ≤ g ∧ ∃ cs, cs.size = 10 ∧ u.heap[g]? = some (.cells cs 26)
/-- A context's memory, in blocks below B, or in a block of words. -/
def Good (u : World) (B : Nat) (y : Ctx) (bo : Option Addr) (bc : Nat) : Prop := SeenW u bo bc y.mem ∧ ∀ a, bo = some a → y.mem ≠ [] → a.block < B ∨ ∃ cs o, u.heap[a.block]? = some (.cells cs 22 o)
def stX (u : World) (g : Nat) (y : Ctx) (bo : Option Addr) (bc : Nat) : World := stN u g 0 (cxL y (.slice bo y.mem.length bc))
def StX (B : Nat) (y : Ctx) (u u' : World) : Prop := Below u.heap.size u u' ∨ ∃ g bo bc, FBox u B g ∧ Good u B y bo bc ∧ u' = stX u g y bo bc
/-- The block holds the context. -/
def Held (u : World) (B : Nat) (y : Ctx) (g : Nat) : Prop := B ≤ g ∧ ∃ bo bc, u.heap[g]? = some (cxO y (.slice bo y.mem.length bc)) ∧ Good u B y bo bc

theorem FBox.lt {u : World} {B g : Nat} (h : FBox u B g) : g < u.heap.size := by
  obtain ⟨-, cs, -, h⟩ := h
  exact blk_lt h
theorem FBox.cells {u : World} {B g : Nat} (h : FBox u B g) : ∃ cs : Array Value, cs.size = 10 ∧ u.heap[g]? = some (.cells cs 26) ∧ (∀ j, j < 10 → ∃ v, u.cell? ⟨g, j, none⟩ = some v) ∧ ∀ j, u.frozen? ⟨g, j, none⟩ = false := by
  obtain ⟨-, cs, hs, h⟩ := h
  exact ⟨cs, hs, h, fun j hj => ⟨cs[j]'(by omega), by simp [World.cell?, h, hs, hj]⟩, froz10' h⟩
theorem stX_at {u : World} {B g : Nat} {y : Ctx} {bo : Option Addr} {bc : Nat} (hr : y.regs.length = 8) (h : FBox u B g) : (stX u g y bo bc).heap[g]? = some (cxO y (.slice bo y.mem.length bc)) := by
  obtain ⟨-, cs, hs, h⟩ := h
  unfold stX
  have := stN_block (cxL y (.slice bo y.mem.length bc)) u 0 _ h
  have e := setsA_all (cxL y (.slice bo y.mem.length bc)) [] cs.toList (by rw [Array.length_toList, hs, cxL_len hr])
  rw [List.nil_append, List.nil_append, Array.toArray_toList] at e
  have e' : setsA cs 0 (cxL y (.slice bo y.mem.length bc)) = cxA y (.slice bo y.mem.length bc) := e
  rw [e'] at this
  exact this
theorem stX_only (u : World) (g : Nat) (y : Ctx) (bo : Option Addr) (bc : Nat) : Only u (stX u g y bo bc) (fun k => k = g) := stN_only _ _ _
theorem FBox.step {u u' : World} {B g : Nat} {y : Ctx} (hr : y.regs.length = 8) (h : FBox u B g) (hs : StX B y u u') : FBox u' B g := by
  rcases hs with hb | ⟨k, bo, bc, hk, -, rfl⟩
  · obtain ⟨h1, cs, h2, h3⟩ := h
    exact ⟨h1, cs, h2, blk_on hb h3⟩
  · by_cases e : g = k
    · subst e
      exact ⟨h.1, _, by simp [cxA, cxL_len hr], stX_at hr hk⟩
    · obtain ⟨h1, cs, h2, h3⟩ := h
      exact ⟨h1, cs, h2, ((stX_only u k y bo bc).block g (blk_lt h3) e).trans h3⟩
/-- A row of words stays where a context's block is turned. -/
theorem Good.stored {u : World} {B g : Nat} {x : Ctx} {bo : Option Addr} {bc : Nat} {w' : World} (h : Good u B x bo bc) (hk : FBox u B g) (ho : Only u w' (fun k => k = g)) : Good w' B x bo bc := by
  have ne : ∀ a, bo = some a → x.mem ≠ [] → a.block ≠ g := by
    intro a ha hm e
    rcases h.2 a ha hm with h1 | ⟨cs, o, h1⟩
    · have := hk.1; omega
    · obtain ⟨-, cs', -, h2⟩ := hk
      rw [e, h2] at h1
      injection h1 with h3
      injection h3 with h4 h5
      exact absurd h5 (by decide)
  refine ⟨?_, fun a ha hm => ?_⟩
  · by_cases hm : x.mem = []
    · have h1 := h.1
      rw [hm] at h1 ⊢
      exact ⟨h1.mx, h1.lc, h1.nn, fun i hi => by simp at hi⟩
    · exact h.1.only ho (fun a ha e => ne a ha hm e)
  · rcases h.2 a ha hm with h1 | ⟨cs, o, h1⟩
    · exact .inl h1
    · exact .inr ⟨cs, o, (ho.block _ (blk_lt h1) (ne a ha hm)).trans h1⟩
theorem Good.below {u u' : World} {B : Nat} {x : Ctx} {bo : Option Addr} {bc : Nat} (h : Good u B x bo bc) (hb : Below u.heap.size u u') : Good u' B x bo bc :=
  ⟨h.1.below hb, fun a ha hm => (h.2 a ha hm).elim .inl (fun ⟨cs, o, h1⟩ => .inr ⟨cs, o, blk_on hb h1⟩)⟩
theorem Good.step {u u' : World} {B : Nat} {x y : Ctx} {bo : Option Addr} {bc : Nat} (h : Good u B x bo bc) (hs : StX B y u u') : Good u' B x bo bc := by
  rcases hs with hb | ⟨k, bo', bc', hk, -, rfl⟩
  · exact h.below hb
  · exact h.stored hk (stX_only _ _ _ _ _)
theorem Held.step {u u' : World} {B g : Nat} {y : Ctx} (hr : y.regs.length = 8) (h : Held u B y g) (hs : StX B y u u') : Held u' B y g := by
  obtain ⟨h0, bo, bc, h1, h2⟩ := h
  rcases hs with hb | ⟨k, bo', bc', hk, hg, rfl⟩
  · exact ⟨h0, bo, bc, blk_on hb h1, h2.below hb⟩
  · by_cases e : g = k
    · subst e
      exact ⟨h0, bo', bc', stX_at hr hk, hg.stored hk (stX_only _ _ _ _ _)⟩
    · exact ⟨h0, bo, bc, ((stX_only u k y bo' bc').block g (blk_lt h1) e).trans h1, h2.stored hk (stX_only _ _ _ _ _)⟩
theorem held_stored {u : World} {B g : Nat} {y : Ctx} {bo : Option Addr} {bc : Nat} (hr : y.regs.length = 8) (hk : FBox u B g) (hg : Good u B y bo bc) : Held (stX u g y bo bc) B y g ∧ StX B y u (stX u g y bo bc) :=
  ⟨⟨hk.1, bo, bc, stX_at hr hk, hg.stored hk (stX_only _ _ _ _ _)⟩, .inr ⟨g, bo, bc, hk, hg, rfl⟩⟩
theorem stX_below {W u : World} {g : Nat} {y : Ctx} {bo : Option Addr} {bc : Nat} (h : Below W.heap.size W u) (hg : W.heap.size ≤ g) : Below W.heap.size W (stX u g y bo bc) := stN_below h hg _ _ h.size

/-- Where the statement's own loop stands: the context x in block D, m instructions done, the last one's error kk. -/
structure LpR (W wr : World) (D : Nat) (code : List Ins) (M : Nat) (x0 : Ctx) (kk : Int) (m : Nat) (xc : Ctx) (bo : Option Addr) (bc : Nat) : Prop where
  on : Only W wr (fun k => k = D)
  box : wr.heap[D]? = some (cxO xc (.slice bo xc.mem.length bc))
  good : Good wr D xc bo bc
  fits : CtxFits xc
  len : xc.mem.length = x0.mem.length
  st : (kk = 0 ∧ Came code M m x0 xc) ∨ (kk ≠ 0 ∧ runE code M x0 = (m, xc, kk))
  le : m ≤ M
theorem LpR.fbox {W wr : World} {D : Nat} {code : List Ins} {M : Nat} {x0 : Ctx} {kk : Int} {m : Nat} {xc : Ctx} {bo : Option Addr} {bc : Nat} (h : LpR W wr D code M x0 kk m xc bo bc) : FBox wr D D := ⟨Nat.le_refl _, _, by simp [cxA, cxL_len h.fits.rl], h.box⟩

theorem LpR.out {W wr : World} {D : Nat} {code : List Ins} {M : Nat} {x0 : Ctx} {kk : Int} {m : Nat} {xc : Ctx} {bo : Option Addr} {bc : Nat} (h : LpR W wr D code M x0 kk m xc bo bc)
    (hc : kk ≠ 0 ∨ m = M ∨ ¬ (0 ≤ xc.pl ∧ xc.pl < (code.length : Int))) : runE code M x0 = (m, xc, kk) := by
  rcases h.st with ⟨rfl, h1⟩ | ⟨-, h1⟩
  · exact h1.out (hc.resolve_left (fun e => e rfl))
  · exact h1
theorem good_of {wr u : World} {D : Nat} {xc y : Ctx} {bx bo : Option Addr} {cx bc : Nat} (hg : Good wr D xc bx cx) (hb : Below wr.heap.size wr u) (hl : y.mem.length = xc.mem.length) (hs : SeenW u bo bc y.mem) (hr : bo = bx ∨ RowW u bo) : Good u D y bo bc := by
  refine ⟨hs, fun a ha hm => ?_⟩
  rcases hr with rfl | hr
  · have hx : xc.mem ≠ [] := fun e => hm (List.eq_nil_of_length_eq_zero (by rw [hl, e]; rfl))
    rcases hg.2 a ha hx with h1 | ⟨cs, o, h1⟩
    · exact .inl h1
    · exact .inr ⟨cs, o, blk_on hb h1⟩
  · exact .inr (hr a ha)
theorem LpR.next {W wr u : World} {D : Nat} {code : List Ins} {M : Nat} {x0 : Ctx} {m : Nat} {xc : Ctx} {bx bo : Option Addr} {cx bc : Nat} (h : LpR W wr D code M x0 0 m xc bx cx) (hm : m < M) (h1 : 0 ≤ xc.pl) (h2 : xc.pl < (code.length : Int)) (hk : (code.getD xc.pl.toNat ins0).k < 4294967296)
    (hb : Below wr.heap.size wr u) (hg : Good u D (doC xc (code.getD xc.pl.toNat ins0)) bo bc) :
    LpR W (stX u D (doC xc (code.getD xc.pl.toNat ins0)) bo bc) D code M x0 (doE xc (code.getD xc.pl.toNat ins0)) (if doE xc (code.getD xc.pl.toNat ins0) = 0 then m + 1 else m) (doC xc (code.getD xc.pl.toNat ins0)) bo bc := by
  have hbx : FBox u D D := ⟨Nat.le_refl _, _, by simp [cxA, cxL_len h.fits.rl], blk_on hb h.box⟩
  have hf := h.fits.does (i := code.getD xc.pl.toNat ins0) hk
  have hcm : Came code M m x0 xc := by
    rcases h.st with ⟨-, h3⟩ | ⟨h3, -⟩
    · exact h3
    · exact absurd rfl h3
  refine ⟨(h.on.trans (Only.of_below hb (fun k => k = D)) (fun _ _ h => h)).trans (stX_only _ _ _ _ _) (fun _ _ h => h), stX_at hf.rl hbx, hg.stored hbx (stX_only _ _ _ _ _), hf, by rw [doC_len]; exact h.len, ?_, ?_⟩
  · by_cases he : doE xc (code.getD xc.pl.toNat ins0) = 0
    · rw [if_pos he]
      exact .inl ⟨he, hcm.next hm h1 h2 he⟩
    · rw [if_neg he]
      refine .inr ⟨he, ?_⟩
      rw [hcm.bad hm h1 h2 he, doC_bad he]
  · split <;> omega

end Go.Proofs.YtoalgajbahlpjaaDoor
