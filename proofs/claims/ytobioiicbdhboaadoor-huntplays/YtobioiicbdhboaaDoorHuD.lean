/-
  The document's hunter, and both side by side (Rel3, Hu6, Hu9 in one text). Over this seat's translation.
-/
import Derived.Test.YtobioiicbdhboaaDoorRel2
import Derived.Test.YtobioiicbdhboaaDoorHuA
import Derived.Test.YtobioiicbdhboaaDoorFrR
import Derived.BigRegion
import Derived.Deep.RegionWith
import Derived.Deep.DeepCutAuto
import Derived.Test.YtobioiicbdhboaaDoorHuC
namespace Go.Proofs.YtobioiicbdhboaaDoor
open Go Go.RowKit
set_option linter.unusedVariables false

/-- What one operation owes: its value, the class of the world, and what it does to the world for good. -/
def StepD (P : Program) (ops : Array Oper) (done : Array Bool) (a0 : Act) (C : World → Prop) (G : World → World → Prop) (F : Nat → World → Prop) (specs : List (Option Value)) (i : Nat) : Prop :=
  ∀ o, ops[i]? = some o → ∀ w, C w → ∀ x : Nat → Value, (∀ p ∈ depsOf .any ops done o, vsat (specs.getD p.1 none) (x p.2)) →
    RelStep P ops o (putAll a0 (depsOf .any ops done o) x) w (fun v w' => vsat (specs.getD i none) v ∧ C w' ∧ G w w' ∧ F i w')

section
variable {P : Program} {ops : Array Oper} {done : Array Bool} {a0 : Act} {C : World → Prop} {G : World → World → Prop} {F : Nat → World → Prop} {specs : List (Option Value)} {i : Nat} {o : Oper}
theorem stepD0 (ho : ops[i]? = some o) (hd : depsOf .any ops done o = [])
    (h : ∀ w, C w → RelStep P ops o a0 w (fun v w' => vsat (specs.getD i none) v ∧ C w' ∧ G w w' ∧ F i w')) : StepD P ops done a0 C G F specs i := by
  intro o' ho' w hC x hx
  obtain rfl := Option.some.inj (ho.symm.trans ho')
  rw [hd] at hx ⊢
  exact h w hC
theorem stepD1 (j d : Nat) (ho : ops[i]? = some o) (hd : depsOf .any ops done o = [(j, d)])
    (h : ∀ w, C w → ∀ v1, vsat (specs.getD j none) v1 → RelStep P ops o (a0.put (some d) v1) w (fun v w' => vsat (specs.getD i none) v ∧ C w' ∧ G w w' ∧ F i w')) : StepD P ops done a0 C G F specs i := by
  intro o' ho' w hC x hx
  obtain rfl := Option.some.inj (ho.symm.trans ho')
  rw [hd] at hx ⊢
  exact h w hC (x d) (hx _ List.mem_cons_self)
theorem stepD2 (j d j' d' : Nat) (ho : ops[i]? = some o) (hd : depsOf .any ops done o = [(j, d), (j', d')])
    (h : ∀ w, C w → ∀ v1 v2, vsat (specs.getD j none) v1 → vsat (specs.getD j' none) v2 → RelStep P ops o ((a0.put (some d) v1).put (some d') v2) w (fun v w' => vsat (specs.getD i none) v ∧ C w' ∧ G w w' ∧ F i w')) : StepD P ops done a0 C G F specs i := by
  intro o' ho' w hC x hx
  obtain rfl := Option.some.inj (ho.symm.trans ho')
  rw [hd] at hx ⊢
  exact h w hC (x d) (x d') (hx _ List.mem_cons_self) (hx _ (List.mem_cons_of_mem _ List.mem_cons_self))
theorem stepD3 (j d j' d' k e : Nat) (ho : ops[i]? = some o) (hd : depsOf .any ops done o = [(j, d), (j', d'), (k, e)])
    (h : ∀ w, C w → ∀ v1 v2 v3, vsat (specs.getD j none) v1 → vsat (specs.getD j' none) v2 → vsat (specs.getD k none) v3 → RelStep P ops o (((a0.put (some d) v1).put (some d') v2).put (some e) v3) w (fun v w' => vsat (specs.getD i none) v ∧ C w' ∧ G w w' ∧ F i w')) : StepD P ops done a0 C G F specs i := by
  intro o' ho' w hC x hx
  obtain rfl := Option.some.inj (ho.symm.trans ho')
  rw [hd] at hx ⊢
  exact h w hC (x d) (x d') (x e) (hx _ List.mem_cons_self) (hx _ (List.mem_cons_of_mem _ List.mem_cons_self)) (hx _ (List.mem_cons_of_mem _ (List.mem_cons_of_mem _ List.mem_cons_self)))

def StepsD (P : Program) (ops : Array Oper) (done : Array Bool) (a0 : Act) (C : World → Prop) (G : World → World → Prop) (F : Nat → World → Prop) (specs : List (Option Value)) (k n : Nat) : Prop := ∀ i, k ≤ i → i < n → StepD P ops done a0 C G F specs i
theorem stepsD_zero {k : Nat} : StepsD P ops done a0 C G F specs k k := fun i h1 h2 => by omega
theorem stepsD_succ {k n : Nat} (h : StepD P ops done a0 C G F specs n) (t : StepsD P ops done a0 C G F specs k n) : StepsD P ops done a0 C G F specs k (n + 1) := fun i h1 hi => by
  by_cases e : i = n
  · subst e; exact h
  · exact t i h1 (by omega)
end

/-- The law, from a place of the region on: the first k operations are done. -/
theorem wpAny_vals {P : Program} {ops : Array Oper} {Q : Exit → Act → World → Prop} {done : Array Bool} {a0 : Act} {w : World} {fuel : Nat} (specs : List (Option Value)) (C : World → Prop) (G : World → World → Prop) (F : Nat → World → Prop) (rest : List (Nat × Nat)) (k n : Nat) (hn : ops.size = n)
    (chk : relB .any ops done a0.tmps.size fuel = true) (hr : restOf ops done = rest) (hdn : ((List.range k).all fun i => done.getD i true) = true) (hC : C w) (hF : ∀ i w w', C w → G w w' → F i w → F i w')
    (hs : StepsD P ops done a0 C G F specs k n)
    (hf : ∀ w', C w' → ∀ x : Nat → Value, (∀ p ∈ rest, vsat (specs.getD p.1 none) (x p.2)) → Q .normal (putAll a0 rest x) w') : wpAny P .any ops Q fuel done a0 w := by
  refine wpAny_rel_eff (md := .any) C G (fun i v w => vsat (specs.getD i none) v) F chk hC (fun i v w w' _ hg h => h) hF ?_ ?_
  · intro i o ho hd w hC x hx
    refine hs i ?_ ?_ o ho w hC x hx
    · rcases Nat.lt_or_ge i k with h | h
      · have := List.all_eq_true.1 hdn i (List.mem_range.2 h)
        rw [this] at hd; cases hd
      · exact h
    · rw [← hn]
      rcases Nat.lt_or_ge i ops.size with h | h
      · exact h
      · rw [Array.getElem?_eq_none h] at ho; cases ho
  · intro w' hC x hx _
    rw [hr] at hx ⊢
    exact hf w' hC x hx

end Go.Proofs.YtobioiicbdhboaaDoor

namespace Go.Proofs.YtobioiicbdhboaaDoor
open Go.RowKit
set_option linter.unusedVariables false
set_option linter.unusedSimpArgs false

/-- The document's hunter in a block: all its bytes, its place, three numbers, whether it is closed. -/
def refO (T : ByteArray) (k n sk lo : Nat) (cl : Bool) : Obj := .cells #[.string T, .int .i64 (k : Int), .int .u64 (n : Int), .int .u64 (sk : Int), .int .u64 (lo : Int), .bool cl] 34 (0, 0)
theorem refcells {w : World} {m : Nat} {T : ByteArray} {k n sk lo : Nat} {cl : Bool} (h : w.heap[m]? = some (refO T k n sk lo cl)) :
    w.cell? ⟨m, 0, none⟩ = some (.string T) ∧ w.cell? ⟨m, 1, none⟩ = some (.int .i64 (k : Int)) ∧ w.cell? ⟨m, 2, none⟩ = some (.int .u64 (n : Int)) ∧ w.cell? ⟨m, 3, none⟩ = some (.int .u64 (sk : Int)) ∧ w.cell? ⟨m, 4, none⟩ = some (.int .u64 (lo : Int)) ∧ w.cell? ⟨m, 5, none⟩ = some (.bool cl) := by
  unfold refO at h
  refine ⟨?_, ?_, ?_, ?_, ?_, ?_⟩ <;> simp [World.cell?, h]
theorem reffree {w : World} {m : Nat} {T : ByteArray} {k n sk lo : Nat} {cl : Bool} (h : w.heap[m]? = some (refO T k n sk lo cl)) (i : Nat) : w.frozen? ⟨m, i, none⟩ = false := by
  unfold refO at h
  simp [World.frozen?, h]
theorem refset {w : World} {m : Nat} {T : ByteArray} {k n sk lo : Nat} {cl : Bool} (h : w.heap[m]? = some (refO T k n sk lo cl)) (i : Nat) (u : Value) {T' : ByteArray} {k' n' sk' lo' : Nat} {cl' : Bool}
    (he : (#[.string T, .int .i64 (k : Int), .int .u64 (n : Int), .int .u64 (sk : Int), .int .u64 (lo : Int), .bool cl] : Array Value).setIfInBounds i u = #[.string T', .int .i64 (k' : Int), .int .u64 (n' : Int), .int .u64 (sk' : Int), .int .u64 (lo' : Int), .bool cl']) :
    (w.setCell ⟨m, i, none⟩ u).heap[m]? = some (refO T' k' n' sk' lo' cl') := by
  unfold refO at h ⊢
  rw [heap_setCell_same w m i _ _ u h, he]
/-- Its place. -/
def atOf (w : World) (m : Nat) : Nat := match w.cell? ⟨m, 1, none⟩ with
  | some (.int _ i) => i.toNat
  | _ => 0
theorem atOf_is {w : World} {m : Nat} {T : ByteArray} {k n sk lo : Nat} {cl : Bool} (h : w.heap[m]? = some (refO T k n sk lo cl)) : atOf w m = k := by
  unfold atOf; rw [(refcells h).2.1]; simp

/-- The state of Go's loop, at any of its places: the block's numbers need not be the hunter's yet. -/
structure RG (w wr : World) (B m : Nat) (T : ByteArray) (cl : Bool) (x3 : Value) (k n sk lo : Nat) (l : List Im) : Prop where
  blk : wr.heap[m]? = some (refO T k n sk lo cl)
  own : OwnI B w.heap.size wr x3 l
  foot : Only w wr (fun j => j = m)
  hB : B ≤ w.heap.size
  base : B ≤ m
  mlt : m < w.heap.size
theorem RG.below {w wr wr' : World} {B m : Nat} {T : ByteArray} {cl : Bool} {x3 : Value} {k n sk lo : Nat} {l : List Im} (h : RG w wr B m T cl x3 k n sk lo l) (hb : Below wr.heap.size wr wr') : RG w wr' B m T cl x3 k n sk lo l :=
  ⟨(hb.block m (blk_lt h.blk)).trans h.blk, h.own.below hb, h.foot.trans (Only.of_below hb (fun j => j = m)) (fun _ _ e => e), h.hB, h.base, h.mlt⟩
theorem RG.drewN {w wr : World} {B m : Nat} {T : ByteArray} {cl : Bool} {x3 : Value} {k n sk lo : Nat} {l : List Im} (h : RG w wr B m T cl x3 k n sk lo l) (q : Nat) : RG w (wr.drewN q) B m T cl x3 k n sk lo l := h.below (below_drewN (Below.refl _ _) q)
theorem RG.tag {w wr : World} {B m : Nat} {T : ByteArray} {cl : Bool} {x3 : Value} {k n sk lo : Nat} {l : List Im} (h : RG w wr B m T cl x3 k n sk lo l) : Tag wr m 34 := ⟨_, _, h.blk⟩
theorem RG.stays {w wr : World} {B m : Nat} {T : ByteArray} {cl : Bool} {x3 : Value} {k n sk lo : Nat} {l : List Im} (h : RG w wr B m T cl x3 k n sk lo l) : ∀ j, j = m → B ≤ j ∧ ¬ Tag wr j 69 := fun j e => by
  subst e
  exact ⟨h.base, fun tg => tg.ne h.tag (by decide) rfl⟩
theorem RG.set {w wr : World} {B m : Nat} {T : ByteArray} {cl : Bool} {x3 : Value} {k n sk lo : Nat} {l : List Im} (h : RG w wr B m T cl x3 k n sk lo l) (i : Nat) (u : Value) {k' n' sk' lo' : Nat}
    (he : (#[.string T, .int .i64 (k : Int), .int .u64 (n : Int), .int .u64 (sk : Int), .int .u64 (lo : Int), .bool cl] : Array Value).setIfInBounds i u = #[.string T, .int .i64 (k' : Int), .int .u64 (n' : Int), .int .u64 (sk' : Int), .int .u64 (lo' : Int), .bool cl]) :
    RG w (wr.setCell ⟨m, i, none⟩ u) B m T cl x3 k' n' sk' lo' l := by
  have ho := Only.setCell wr m i u (fun j => j = m) rfl
  exact ⟨refset h.blk i u he, h.own.only ho h.stays (fun j e hj => by subst e; exact (h.own.tag hj).2.ne h.tag (by decide) rfl), h.foot.trans ho (fun _ _ e => e), h.hB, h.base, h.mlt⟩
theorem RG.app {w wr w2 : World} {B m : Nat} {T : ByteArray} {cl : Bool} {x3 v2 : Value} {k n sk lo : Nat} {l : List Im} (h : RG w wr B m T cl x3 k n sk lo l) (x : Im) (hx : ImOk B wr x) (hr : w2.ownsRow w.heap.size 44 4 v2 (l ++ [x]).length (imRow (l ++ [x]))) (hg : (wr.alloc (imO x)).grownBy w2 x3.ownBlock) :
    RG w w2 B m T cl v2 k n sk lo (l ++ [x]) := by
  have ho : Only wr w2 (fun j => x3.ownBlock = some j) := (Only.alloc wr _ _).trans (Only.of_grown hg (fun j e => e)) (fun _ _ e => e)
  have hT : ∀ j, x3.ownBlock = some j → Tag wr j 44 := fun j hj => (h.own.tag hj).2
  have hS : ∀ j, x3.ownBlock = some j → B ≤ j ∧ ¬ Tag wr j 69 := fun j hj => by
    have := (h.own.tag hj).1
    have := h.hB
    exact ⟨by omega, fun tg => tg.ne (hT j hj) (by decide) rfl⟩
  refine ⟨(ho.block m (blk_lt h.blk) (fun e => (hT m e).ne h.tag (by decide) rfl)).trans h.blk, ⟨hr, fun y hy => ?_⟩, h.foot.trans ho (fun j hj e => by have := (h.own.tag e).1; omega), h.hB, h.base, h.mlt⟩
  rcases List.mem_append.1 hy with hy | hy
  · exact (h.own.ok y hy).only ho hS
  · simp only [List.mem_cons, List.not_mem_nil, or_false] at hy
    subst hy
    exact hx.only ho hS
theorem RG.frame {w wr wr' : World} {B m : Nat} {T : ByteArray} {cl : Bool} {x3 : Value} {k n sk lo : Nat} {l : List Im} (h : RG w wr B m T cl x3 k n sk lo l) {D q : Nat} {ao : Option Addr} {nn cap : Nat} (hD : wr.heap[D]? = some (frO q ao nn cap)) (hw : w.heap.size ≤ D) (hg : wr.grownBy wr' (some D)) : RG w wr' B m T cl x3 k n sk lo l := by
  have ho : Only wr wr' (fun j => j = D) := Only.of_grown hg (fun j e => by cases e; rfl)
  have hT : Tag wr D 48 := ⟨_, _, hD⟩
  have hB := h.hB
  refine ⟨(ho.block m (blk_lt h.blk) (fun e => h.tag.ne hT (by decide) e)).trans h.blk, h.own.only ho (fun j e => ?_) (fun j e hj => ?_), h.foot.trans ho (fun j hj e => by omega), h.hB, h.base, h.mlt⟩
  · subst e
    exact ⟨by omega, fun tg => tg.ne hT (by decide) rfl⟩
  · subst e
    exact (h.own.tag hj).2.ne hT (by decide) rfl
/-- .. and a frame that is about to be told. -/
structure RGF (w wr : World) (B m : Nat) (T : ByteArray) (cl : Bool) (x3 : Value) (k n sk lo : Nat) (l : List Im) (D q : Nat) (ao : Option Addr) (cap : Nat) (evs : List Ev) : Prop where
  rg : RG w wr B m T cl x3 k n sk lo l
  fr : wr.heap[D]? = some (frO q ao evs.length cap)
  ev : ImOk B wr ⟨⟨1, q, 0, evs⟩, ao, cap⟩
theorem RGF.drewN {w wr : World} {B m : Nat} {T : ByteArray} {cl : Bool} {x3 : Value} {k n sk lo : Nat} {l : List Im} {D q : Nat} {ao : Option Addr} {cap : Nat} {evs : List Ev} (h : RGF w wr B m T cl x3 k n sk lo l D q ao cap evs) (e : Nat) : RGF w (wr.drewN e) B m T cl x3 k n sk lo l D q ao cap evs :=
  ⟨h.rg.drewN e, h.fr, h.ev.only (Only.drewN wr e (fun _ => False)) (fun j hj => hj.elim)⟩
theorem RGF.set {w wr : World} {B m : Nat} {T : ByteArray} {cl : Bool} {x3 : Value} {k n sk lo : Nat} {l : List Im} {D q : Nat} {ao : Option Addr} {cap : Nat} {evs : List Ev} (h : RGF w wr B m T cl x3 k n sk lo l D q ao cap evs) (i : Nat) (u : Value) {k' n' sk' lo' : Nat}
    (he : (#[.string T, .int .i64 (k : Int), .int .u64 (n : Int), .int .u64 (sk : Int), .int .u64 (lo : Int), .bool cl] : Array Value).setIfInBounds i u = #[.string T, .int .i64 (k' : Int), .int .u64 (n' : Int), .int .u64 (sk' : Int), .int .u64 (lo' : Int), .bool cl]) :
    RGF w (wr.setCell ⟨m, i, none⟩ u) B m T cl x3 k' n' sk' lo' l D q ao cap evs := by
  have ho := Only.setCell wr m i u (fun j => j = m) rfl
  exact ⟨h.rg.set i u he, (ho.block D (blk_lt h.fr) (Tag.ne (a := 48) ⟨_, _, h.fr⟩ h.rg.tag (by decide))).trans h.fr, h.ev.only ho h.rg.stays⟩
theorem RGF.app {w wr w2 : World} {B m : Nat} {T : ByteArray} {cl : Bool} {x3 v2 : Value} {k n sk lo : Nat} {l : List Im} {D q : Nat} {ao : Option Addr} {cap : Nat} {evs : List Ev} (h : RGF w wr B m T cl x3 k n sk lo l D q ao cap evs) (x : Im) (hx : ImOk B wr x) (hr : w2.ownsRow w.heap.size 44 4 v2 (l ++ [x]).length (imRow (l ++ [x]))) (hg : (wr.alloc (imO x)).grownBy w2 x3.ownBlock) :
    RGF w w2 B m T cl v2 k n sk lo (l ++ [x]) D q ao cap evs := by
  have ho : Only wr w2 (fun j => x3.ownBlock = some j) := (Only.alloc wr _ _).trans (Only.of_grown hg (fun j e => e)) (fun _ _ e => e)
  have hT : ∀ j, x3.ownBlock = some j → Tag wr j 44 := fun j hj => (h.rg.own.tag hj).2
  have hB := h.rg.hB
  refine ⟨h.rg.app x hx hr hg, (ho.block D (blk_lt h.fr) (fun e => (hT D e).ne (b := 48) ⟨_, _, h.fr⟩ (by decide) rfl)).trans h.fr, h.ev.only ho (fun j hj => ⟨?_, fun tg => tg.ne (hT j hj) (by decide) rfl⟩)⟩
  have := (h.rg.own.tag hj).1
  omega
theorem RGF.row {w wr : World} {B m : Nat} {T : ByteArray} {cl : Bool} {x3 : Value} {k n sk lo : Nat} {l : List Im} {D q : Nat} {ao : Option Addr} {cap : Nat} {evs : List Ev} (h : RGF w wr B m T cl x3 k n sk lo l D q ao cap evs) (o : Obj) : (wr.alloc o).ownsRow w.heap.size 44 4 x3 l.length (imRow l) := World.ownsRow.alloc h.rg.own.row o
/-- What is told ahead and behind. -/
structure RT (T : ByteArray) (cl : Bool) (s st : HS) (k : Nat) (l : List Im) : Prop where
  told : l.map Im.it = st.told
  rest : st.rest = T.data.toList.drop k
  le : k ≤ T.size
  go : st.go cl = s.go cl
  n : st.next ≤ 4294967296
  sk : st.skip ≤ s.skip + k
  lo : st.lost ≤ s.lost + 4294967296 * k
  cnt : l.length ≤ 2 * k
theorem RT.skipped {T : ByteArray} {cl : Bool} {s st : HS} {k : Nat} {l : List Im} (h : RT T cl s st k l) (hk : k < T.size) (hnf : ¬ st.finds) (hnw : ¬ ((frameR st.rest).2.2.2 = 2 ∧ cl = false)) : RT T cl s st.skip1 (k + 1) l := by
  have hr : st.rest ≠ [] := by
    rw [h.rest]
    intro e
    have := congrArg List.length e
    rw [List.length_drop, List.length_nil, show T.data.toList.length = T.size from rfl] at this
    omega
  refine ⟨h.told, ?_, hk, by rw [← h.go, HS.go_some (HS.step_skips hr hnf hnw)], h.n, ?_, ?_, by have := h.cnt; omega⟩
  · show st.rest.drop 1 = _
    rw [h.rest, List.drop_drop]
  · show st.skip + 1 ≤ _
    have := h.sk; omega
  · show st.lost ≤ _
    have := h.lo; omega
theorem RT.tolds {T : ByteArray} {cl : Bool} {s st : HS} {k : Nat} {l l' : List Im} (h : RT T cl s st k l) (hf : st.finds) (hm : l'.map Im.it = l.map Im.it ++ tells st.next (frameR st.rest).1 (frameR st.rest).2.1) : RT T cl s st.told1 (k + (frameR st.rest).2.2.1) l' := by
  have hl := frame_len hf.1
  have hrl : st.rest.length = T.size - k := by rw [h.rest, List.length_drop]; rfl
  have htl : (tells st.next (frameR st.rest).1 (frameR st.rest).2.1).length ≤ 2 := by unfold tells; split <;> simp
  have hll : l'.length = l.length + (tells st.next (frameR st.rest).1 (frameR st.rest).2.1).length := by
    have := congrArg List.length hm
    simpa using this
  refine ⟨by rw [hm, h.told]; rfl, ?_, by omega, by rw [← h.go, HS.go_some (HS.step_finds hf)], ?_, ?_, ?_, by have := h.cnt; omega⟩
  · show st.rest.drop _ = _
    rw [h.rest, List.drop_drop]
  · show (frameR st.rest).1 + 1 ≤ _
    omega
  · show st.skip ≤ _
    have := h.sk; omega
  · show st.lost + _ ≤ _
    have := h.lo; omega

set_option maxRecDepth 100000 in
set_option maxHeartbeats 8000000 in
theorem rgo_any {w : World} {B m k n sk lo : Nat} {T : ByteArray} {cl : Bool} (h : w.heap[m]? = some (refO T k n sk lo cl)) (hB : B ≤ w.heap.size) (hBm : B ≤ m) (hk : k ≤ T.size) (hT : T.size ≤ 100000) (hn : n ≤ 4294967296) (hsk : sk ≤ 1000000) (hlo : lo ≤ 4294967296 * 1000000) :
    Calls Tryd.prog 16 #[.pointer (some ⟨m, 0, none⟩)] w fun r w' =>
      ∃ vt l k', r = .returned vt ∧ OwnI B w.heap.size w' vt l ∧ l.map Im.it = ((HS.mk [] (T.data.toList.drop k) n sk lo).go cl).told ∧ k' ≤ T.size ∧ ((HS.mk [] (T.data.toList.drop k) n sk lo).go cl).rest = T.data.toList.drop k' ∧
        w'.heap[m]? = some (refO T k' ((HS.mk [] (T.data.toList.drop k) n sk lo).go cl).next ((HS.mk [] (T.data.toList.drop k) n sk lo).go cl).skip ((HS.mk [] (T.data.toList.drop k) n sk lo).go cl).lost cl) ∧ Only w w' (fun j => j = m) := by
  obtain ⟨s, hs⟩ : ∃ s, s = HS.mk [] (T.data.toList.drop k) n sk lo := ⟨_, rfl⟩
  rw [← hs]
  obtain ⟨w1, x1⟩ : ∃ w1, w1 = w.alloc (.cells #[] 44) := ⟨_, rfl⟩
  obtain ⟨s1, n1, b1⟩ := new_size x1
  have P0 : RG w w1 B m T cl (.slice (some ⟨w.heap.size, 0, none⟩) 0 0) k n sk lo [] :=
    ⟨(b1.block m (blk_lt h)).trans h, ⟨by rw [x1]; exact World.ownsRow_lit w #[] 0 (Nat.le_refl _) (by decide) rfl, fun x hx => by cases hx⟩, Only.of_below b1 _, hB, hBm, blk_lt h⟩
  have T0 : RT T cl s s 0 [] → True := fun _ => trivial
  have R0 : RT T cl s s k [] := ⟨by rw [hs]; rfl, by rw [hs], hk, rfl, by rw [hs]; exact hn, by rw [hs]; show sk ≤ sk + k; omega, by rw [hs]; show lo ≤ lo + _; omega, by simp⟩
  have HP0 := Lib.hid P0
  have HR0 := Lib.hid R0
  have hss : s.next = n ∧ s.skip = sk ∧ s.lost = lo := by rw [hs]; exact ⟨rfl, rfl, rfl⟩
  have Hss := Lib.hid hss
  have hsl : s.lost ≤ 4294967296 * 1000000 := by rw [hs]; exact hlo
  have hsk' : s.skip ≤ 1000000 := by rw [hs]; exact hsk
  clear h P0 T0 R0 hs hn hsk hlo n1 b1 s1 hss
  go_enter Tryd.func16, Tryd.ntmps16
  go_wp2_with fail
  rw [← x1]
  clear x1
  go_loopw [3] (fun x3 wr => ∃ (k : Nat) (l : List Im) (st : HS), Hid (RG w wr B m T cl x3 k st.next st.skip st.lost l) ∧ Hid (RT T cl s st k l)) (fun _ wr => T.size - atOf wr m)
  case atStart => exact ⟨k, [], s, by rw [Hss.out.1, Hss.out.2.1, Hss.out.2.2]; exact HP0, HR0⟩
  case round =>
    clear HP0 HR0 Hss hk
    obtain ⟨k, l, st, P, R⟩ := hrel
    obtain ⟨ax, cx, hx⟩ := P.out.own.shape
    subst hx
    have hkle : k ≤ T.size := R.out.le
    have Hat := Lib.hid (atOf_is P.out.blk)
    obtain ⟨c0, c1, c2, c3, c4, c5⟩ := refcells P.out.blk
    by_cases hlt : k < T.size
    · have HRd := Lib.hid (fun W => (by have := rfread_tag T (by omega) k hkle W; rw [← R.out.rest] at this; exact this))
      obtain ⟨R0, hR⟩ : ∃ R0, frameR st.rest = R0 := ⟨_, rfl⟩
      rw [hR] at HRd
      obtain ⟨q, evs, len, c⟩ := R0
      simp only at HRd
      obtain ⟨nx, hnx⟩ : ∃ nx, nx = nextP k (q, evs, len, c) := ⟨_, rfl⟩
      rw [← hnx] at HRd
      have HRR := Lib.hid hR
      have Hnx := Lib.hid hnx
      have hd1 : decide ((k : Int) < (T.size : Int)) = true := by simp; omega
      have hd2 : decide (k < T.size) = true := by simp; omega
      clear hR hnx
      go_wp2_with fail
      go_quiet (fail)
      obtain ⟨wq, xq⟩ : ∃ wq, wq = wr.drewN nq := ⟨_, rfl⟩
      have P1 := Lib.hid (P.out.drewN nq)
      rw [← xq] at P1 ⊢
      clear xq c0 c1 c2 c3 c4 c5 P
      obtain ⟨c0, c1, c2, c3, c4, c5⟩ := refcells P1.out.blk
      go_upto_region 3 with fail
      go_cut [4, 5, 6] (fun x4 x5 x6 wx => ∃ (D : Nat) (ao : Option Addr) (cap : Nat), x4 = .pointer (some ⟨D, 0, none⟩) ∧ x5 = .int .i64 nx ∧ x6 = .int .i64 c ∧ wx.heap[D]? = some (frO q ao evs.length cap) ∧ SeenE wx ao cap evs ∧ EvT wx ao ∧ RG w wx B m T cl (.slice ax l.length cx) k st.next st.skip st.lost l)
      case first =>
        obtain ⟨wa, xa⟩ : ∃ wa, wa = wq.alloc (frO 0 none 0 0) := ⟨_, rfl⟩
        obtain ⟨sa, na, ba⟩ := new_size xa
        have PA := Lib.hid ((P1.out.below ba).drewN 1)
        have NA := Lib.hid na
        have hmq : m < wq.heap.size := blk_lt P1.out.blk
        have hmn : m ≠ wq.heap.size := by omega
        have Hsa := Lib.hid (show wq.heap.size < wa.heap.size by omega)
        have Hwq := Lib.hid (show w.heap.size ≤ wq.heap.size from P1.out.foot.size)
        unfold frO at xa
        rw [show ((0 : Nat) : Int) = 0 from rfl] at xa
        rw [xa] at PA NA
        clear xa sa na ba Hsa
        go_region_with (first
          | (go_at_call 28; refine (HRd.out _).mono ?_; rintro e w4 ⟨ao, cap, rfl, s4, t4, b4⟩; have P4 := Lib.hid ((P1.out.drewN 1).below b4); have S4 := Lib.hid s4; have T4 := Lib.hid t4; clear s4 t4 b4)
          | (go_at_call 28; refine (HRd.out _).mono ?_; rintro e w4 ⟨ao, cap, rfl, s4, t4, b4⟩; have P4 := Lib.hid (PA.out.below b4); have n4 := (b4.block _ (blk_lt NA.out)).trans NA.out; have N4 := Lib.hid n4; obtain ⟨y0, y1, z0, z1⟩ := frcells n4; have S4 := Lib.hid s4; have T4 := Lib.hid t4; clear s4 t4 b4 n4))
        all_goals
          first
          | (have N4' := N4
             have HSt := fr_stored (q := q) (ao := ao) (n := evs.length) (cap := cap) N4.out
             have P5 := Lib.hid (P4.out.frame N4.out Hwq.out HSt.2)
             have S5 := Lib.hid (S4.out.frame N4.out HSt.2)
             have T5 := Lib.hid (T4.out.frame N4.out HSt.2)
             have N5 := Lib.hid HSt.1
             clear HSt
             go_wp2_with fail
             go_meet
             exact ⟨_, ao, cap, rfl, rfl, rfl, N5.out, S5.out, T5.out, P5.out⟩)
          | (obtain ⟨w5, x5⟩ : ∃ w5, w5 = w4.alloc (frO q ao evs.length cap) := ⟨_, rfl⟩
             obtain ⟨s5, n5, b5⟩ := new_size x5
             have P5 := Lib.hid (P4.out.below b5)
             have S5 := Lib.hid (S4.out.below b5)
             have T5 := Lib.hid (T4.out.below b5)
             have N5 := Lib.hid n5
             clear P4 S4 T4 s5 n5 b5
             unfold frO at x5
             go_wp2_with fail
             go_meet
             rw [← x5]
             exact ⟨_, ao, cap, rfl, rfl, rfl, N5.out, S5.out, T5.out, P5.out⟩)
      case rest =>
      obtain ⟨D, ao, cap, rfl, rfl, rfl, n5, s5, t5, p5⟩ := hcut
      have P5 := Lib.hid (show RGF w wc B m T cl (.slice ax l.length cx) k st.next st.skip st.lost l D q ao cap evs from ⟨p5, n5, s5, fun x hx => .inr (t5 x hx)⟩)
      clear c0 c1 c2 c3 c4 c5
      obtain ⟨c0, c1, c2, c3, c4, c5⟩ := refcells p5.blk
      have f1 := reffree p5.blk 1
      have f3 := reffree p5.blk 3
      obtain ⟨d0, d1, -, -⟩ := frcells n5
      clear n5 s5 t5 p5 P1 HRd
      by_cases hc : c = 0
      · have hcb : (c == 2) = false := by rw [hc]; rfl
        have hcn : (c != 0) = false := by rw [hc]; rfl
        have hfl := frame_len (L := st.rest) (by rw [HRR.out]; exact hc)
        rw [HRR.out] at hfl
        simp only at hfl
        have hnx : nx = k + len := by rw [Hnx.out]; simp [nextP, hc]
        by_cases hge : st.next ≤ q
        · have hd3 : decide ((q : Int) < (st.next : Int)) = false := by simp; omega
          have hd4 : decide (q < st.next) = false := by simp; omega
          have HFi := Lib.hid (show st.finds from ⟨by rw [HRR.out]; exact hc, by rw [HRR.out]; exact hge⟩)
          have hlo5 := R.out.lo
          have hcn5 := R.out.cnt
          go_wp2_with fail
          go_quiet (fail)
          obtain ⟨wd, xd⟩ : ∃ wd, wd = wc.drewN nq := ⟨_, rfl⟩
          have PD := Lib.hid (P5.out.drewN nq)
          rw [← xd] at PD ⊢
          clear xd c0 c1 c2 c3 c4 c5 d0 d1 f1 f3 P5
          obtain ⟨c0, c1, c2, c3, c4, c5⟩ := refcells PD.out.rg.blk
          obtain ⟨d0, d1, -, -⟩ := frcells PD.out.fr
          go_wp2_with fail
          go_quiet (fail)
          obtain ⟨wF, xF⟩ : ∃ wF, wF = wd.drewN nq := ⟨_, rfl⟩
          have PF := Lib.hid (PD.out.drewN nq)
          rw [← xF] at PF ⊢
          clear xF c0 c1 c2 c3 c4 c5 d0 d1 PD
          obtain ⟨c0, c1, c2, c3, c4, c5⟩ := refcells PF.out.rg.blk
          have f4 := reffree PF.out.rg.blk 4
          obtain ⟨d0, d1, -, -⟩ := frcells PF.out.fr
          obtain ⟨j, hj⟩ : ∃ j, q = st.next + j := ⟨q - st.next, by omega⟩
          have hj2 : (q : Int) - (st.next : Int) = (j : Int) := by omega
          have Hj := Lib.hid hj
          by_cases hlt2 : st.next < q
          · have hj0 : decide ((0 : Int) < (j : Int)) = true := by simp; omega
            have hj0' : decide (0 < j) = true := by simp; omega
            have RK := Lib.hid (R.out.tolds (l' := l ++ [⟨⟨2, st.next, j, []⟩, none, 0⟩] ++ [⟨⟨1, q, 0, evs⟩, ao, cap⟩]) HFi.out (by
              rw [HRR.out]
              unfold tells
              rw [if_pos hlt2, show q - st.next = j by omega]
              simp))
            rw [HRR.out] at RK
            simp only at RK
            rw [← hnx] at RK
            have hb1 : j < 4294967296 := by omega
            have hb2 : st.next < 4294967296 := by omega
            have hb3 : st.lost + j < 18446744073709551616 := by omega
            have hq := hfl.2.2
            have hnk : k < nx := by omega
            clear hfl hj hlt2 hge R hnx
            go_wp2_with (at_builtin; refine wpList_append_im rfl _ _ rfl w.heap.size w.heap.size _ _ rfl l [⟨⟨2, st.next, j, []⟩, none, 0⟩] ?_ ?_ rfl ?_ (by simp; omega) ?_)
            · exact PF.out.row _
            · have := PF.out.rg.foot.size; simp; omega
            · exact im_lit wF w.heap.size ⟨⟨2, st.next, j, []⟩, none, 0⟩ PF.out.rg.foot.size
            · intro ao3 cap3 w3 r3 g3
              have p3 := PF.out.app (w2 := w3) (v2 := .slice ao3 (l.length + 1) cap3) ⟨⟨2, st.next, j, []⟩, none, 0⟩ (imOk_gap B wF st.next j) (by simpa using r3) g3
              have p4 := p3.set 4 (.int .u64 ((st.lost : Int) + (j : Int))) (k' := k) (n' := st.next) (sk' := st.skip) (lo' := st.lost + j) (by simp)
              obtain ⟨wG, xG⟩ : ∃ wG, wG = w3.setCell ⟨m, 4, none⟩ (.int .u64 ((st.lost : Int) + (j : Int))) := ⟨_, rfl⟩
              have HsG := Lib.hid (show wG.heap.size = w3.heap.size by rw [xG]; simp)
              rw [← xG] at p4
              have PG := Lib.hid p4
              clear c0 c1 c2 c3 c4 c5 d0 d1 f4
              obtain ⟨c0, c1, c2, c3, c4, c5⟩ := refcells p3.rg.blk
              have f4 := reffree p3.rg.blk 4
              obtain ⟨d0, d1, -, -⟩ := frcells p3.fr
              clear p3 p4 r3 g3 PF
              go_wp2_with (at_builtin; refine wpList_append_im rfl _ _ rfl w.heap.size w.heap.size _ _ rfl (l ++ [⟨⟨2, st.next, j, []⟩, none, 0⟩]) [⟨⟨1, q, 0, evs⟩, ao, cap⟩] ?_ ?_ rfl ?_ (by simp; omega) ?_)
              · rw [← xG]; have := PG.out.row (imO ⟨⟨1, q, 0, evs⟩, ao, cap⟩); exact this
              · rw [← xG]; have := PG.out.rg.foot.size; simp; omega
              · rw [← xG]; have := im_lit wG w.heap.size ⟨⟨1, q, 0, evs⟩, ao, cap⟩ PG.out.rg.foot.size; rw [HsG.out] at this; exact this
              · intro ao6 cap6 w6 r6 g6
                rw [← xG] at g6
                have p6 := PG.out.app (w2 := w6) (v2 := .slice ao6 (l.length + 1 + 1) cap6) _ PG.out.ev (by simpa using r6) g6
                have P6 := Lib.hid ((p6.set 2 (.int .u64 ((q : Int) + 1)) (k' := k) (n' := q + 1) (sk' := st.skip) (lo' := st.lost + j) (by simp)).rg.set 1 (.int .i64 (nx : Int)) (k' := nx) (n' := q + 1) (sk' := st.skip) (lo' := st.lost + j) (by simp))
                obtain ⟨c0, c1, c2, c3, c4, c5⟩ := refcells p6.rg.blk
                have f1 := reffree p6.rg.blk 1
                have f2 := reffree p6.rg.blk 2
                obtain ⟨d0, d1, -, -⟩ := frcells p6.fr
                have HN1 := Lib.hid (show st.told1.next = q + 1 by simp [HS.told1, HRR.out])
                have HN2 := Lib.hid (show st.told1.lost = st.lost + j by have := Hj.out; simp only [HS.told1, HRR.out]; omega)
                clear p6 r6 g6 PG
                go_wp2_with fail
                go_roundw
                case rel => exact ⟨nx, _, st.told1, by rw [HN1.out, show st.told1.skip = st.skip from rfl, HN2.out]; exact P6, RK⟩
                case measure => rw [Hat.out, atOf_is P6.out.blk]; omega
          · have hj0 : j = 0 := by omega
            have hj3 : decide ((0 : Int) < (j : Int)) = false := by simp; omega
            have hj4 : decide (0 < j) = false := by simp; omega
            have RK := Lib.hid (R.out.tolds (l' := l ++ [⟨⟨1, q, 0, evs⟩, ao, cap⟩]) HFi.out (by
              rw [HRR.out]
              unfold tells
              rw [if_neg hlt2]
              simp))
            rw [HRR.out] at RK
            simp only at RK
            rw [← hnx] at RK
            obtain ⟨wG, xG⟩ : ∃ wG, wF = wG := ⟨_, rfl⟩
            have PG : Hid (RGF w wF B m T cl (.slice ax l.length cx) k st.next st.skip (st.lost + j) l D q ao cap evs) := by rw [hj0]; exact PF
            rw [xG] at PG c0 c1 c2 c3 c4 c5 d0 d1 f4 ⊢
            have hq := hfl.2.2
            have hnk : k < nx := by omega
            clear hfl hj hlt2 hge R hj0 PF xG hnx
            go_wp2_with (at_builtin; refine wpList_append_im rfl _ _ rfl w.heap.size w.heap.size _ _ rfl l [⟨⟨1, q, 0, evs⟩, ao, cap⟩] ?_ ?_ rfl ?_ (by simp; omega) ?_)
            · have := PG.out.row (imO ⟨⟨1, q, 0, evs⟩, ao, cap⟩); exact this
            · have := PG.out.rg.foot.size; simp; omega
            · have := im_lit wG w.heap.size ⟨⟨1, q, 0, evs⟩, ao, cap⟩ PG.out.rg.foot.size; exact this
            · intro ao6 cap6 w6 r6 g6
              skip
              have p6 := PG.out.app (w2 := w6) (v2 := .slice ao6 (l.length + 1) cap6) _ PG.out.ev (by simpa using r6) g6
              have P6 := Lib.hid ((p6.set 2 (.int .u64 ((q : Int) + 1)) (k' := k) (n' := q + 1) (sk' := st.skip) (lo' := st.lost + j) (by simp)).rg.set 1 (.int .i64 (nx : Int)) (k' := nx) (n' := q + 1) (sk' := st.skip) (lo' := st.lost + j) (by simp))
              obtain ⟨c0, c1, c2, c3, c4, c5⟩ := refcells p6.rg.blk
              have f1 := reffree p6.rg.blk 1
              have f2 := reffree p6.rg.blk 2
              obtain ⟨d0, d1, -, -⟩ := frcells p6.fr
              have HN1 := Lib.hid (show st.told1.next = q + 1 by simp [HS.told1, HRR.out])
              have HN2 := Lib.hid (show st.told1.lost = st.lost + j by have := Hj.out; simp only [HS.told1, HRR.out]; omega)
              clear p6 r6 g6 PG
              go_wp2_with fail
              go_roundw
              case rel => exact ⟨nx, _, st.told1, by rw [HN1.out, show st.told1.skip = st.skip from rfl, HN2.out]; exact P6, RK⟩
              case measure => rw [Hat.out, atOf_is P6.out.blk]; omega
        · have hd3 : decide ((q : Int) < (st.next : Int)) = true := by simp; omega
          have hd4 : decide (q < st.next) = true := by simp; omega
          have HNF := Lib.hid (show ¬ st.finds from fun h => hge (by have := h.2; rw [HRR.out] at this; exact this))
          have HNW := Lib.hid (show ¬ ((frameR st.rest).2.2.2 = 2 ∧ cl = false) from fun h => by have := h.1; rw [HRR.out] at this; simp only at this; omega)
          have PK := Lib.hid (fun e => ((P5.out.rg.drewN e).set 1 (.int .i64 ((k : Int) + 1)) (k' := k + 1) (n' := st.next) (sk' := st.skip) (lo' := st.lost) (by simp)).set 3 (.int .u64 ((st.skip : Int) + 1)) (k' := k + 1) (n' := st.next) (sk' := st.skip + 1) (lo' := st.lost) (by simp))
          have RK := Lib.hid (R.out.skipped hlt HNF.out HNW.out)
          have hskk := R.out.sk
          clear P5 R Hnx
          go_wp2_with fail
          go_quiet (fail)
          go_wp2_with fail
          go_roundw
          case rel => exact ⟨k + 1, l, st.skip1, Lib.hid (PK.out _), RK⟩
          case measure => rw [Hat.out, atOf_is (PK.out _).blk]; omega
      · have hcn : (c != 0) = true := by simpa using hc
        have HNF := Lib.hid (show ¬ st.finds from fun h => hc (by have := h.1; rw [HRR.out] at this; exact this))
        by_cases hc2 : c = 2
        · have hcb : (c == 2) = true := by rw [hc2]; rfl
          cases cl with
          | true =>
            have HNW := Lib.hid (show ¬ ((frameR st.rest).2.2.2 = 2 ∧ true = false) from fun h => by cases h.2)
            have PK := Lib.hid (fun e => ((P5.out.rg.drewN e).set 1 (.int .i64 ((k : Int) + 1)) (k' := k + 1) (n' := st.next) (sk' := st.skip) (lo' := st.lost) (by simp)).set 3 (.int .u64 ((st.skip : Int) + 1)) (k' := k + 1) (n' := st.next) (sk' := st.skip + 1) (lo' := st.lost) (by simp))
            have RK := Lib.hid (R.out.skipped hlt HNF.out HNW.out)
            have hskk := R.out.sk
            clear P5 R Hnx
            go_wp2_with fail
            go_quiet (fail)
            go_wp2_with fail
            go_roundw
            case rel => exact ⟨k + 1, l, st.skip1, Lib.hid (PK.out _), RK⟩
            case measure => rw [Hat.out, atOf_is (PK.out _).blk]; omega
          | false =>
            have HW := Lib.hid (show s.go false = st from by rw [← R.out.go, HS.go_none (HS.step_waits (by rw [HRR.out]; exact hc2))])
            clear HNF Hnx
            go_wp2_with fail
            go_ret
            rw [HW.out]
            exact ⟨_, l, k, rfl, P5.out.rg.own, R.out.told, hkle, R.out.rest, P5.out.rg.blk, P5.out.rg.foot⟩
        · have hcb : (c == 2) = false := by simpa using hc2
          have HNW := Lib.hid (show ¬ ((frameR st.rest).2.2.2 = 2 ∧ cl = false) from fun h => hc2 (by have := h.1; rw [HRR.out] at this; exact this))
          have PK := Lib.hid (fun e => ((P5.out.rg.drewN e).set 1 (.int .i64 ((k : Int) + 1)) (k' := k + 1) (n' := st.next) (sk' := st.skip) (lo' := st.lost) (by simp)).set 3 (.int .u64 ((st.skip : Int) + 1)) (k' := k + 1) (n' := st.next) (sk' := st.skip + 1) (lo' := st.lost) (by simp))
          have RK := Lib.hid (R.out.skipped hlt HNF.out HNW.out)
          have hskk := R.out.sk
          clear P5 R Hnx
          go_wp2_with fail
          go_quiet (fail)
          go_wp2_with fail
          go_roundw
          case rel => exact ⟨k + 1, l, st.skip1, Lib.hid (PK.out _), RK⟩
          case measure => rw [Hat.out, atOf_is (PK.out _).blk]; omega
    · have HW := Lib.hid (show s.go cl = st from by
        rw [← R.out.go, HS.go_none (HS.step_end (by rw [R.out.rest]; exact List.drop_of_length_le (by show T.size ≤ k; omega)))])
      have hd1 : decide ((k : Int) < (T.size : Int)) = false := by simp; omega
      have hd2 : decide (k < T.size) = false := by simp; omega
      clear hlt
      go_wp2_with fail
      go_quiet (fail)
      go_wp2_with fail
      go_ret
      rw [HW.out]
      exact ⟨_, l, k, rfl, (P.out.drewN _).own, R.out.told, hkle, R.out.rest, (P.out.drewN _).blk, (P.out.drewN _).foot⟩

end Go.Proofs.YtobioiicbdhboaaDoor

namespace Go.Proofs.YtobioiicbdhboaaDoor
open Go.RowKit
set_option linter.unusedVariables false
set_option linter.unusedSimpArgs false

/-- Both hunters, before a piece. -/
structure Duo (w wr : World) (B b t m : Nat) (v : Value) (T : ByteArray) (kk : Nat) (st : HS) (cl : Bool) : Prop where
  hb : HB w wr B b t v st cl
  rf : wr.heap[m]? = some (refO T kk st.next st.skip st.lost cl)
  rest : st.rest = T.data.toList.drop kk
  le : kk ≤ T.size
  told : st.told = []
  wt : st.rest = [] ∨ (frameR st.rest).2.2.2 = 2
  n : st.next ≤ 4294967296
  sk : st.skip + st.rest.length ≤ T.size
  lo : st.lost ≤ st.next
  hV : 0 < B
  hm : B ≤ m
theorem Duo.drewN {w wr : World} {B b t m : Nat} {v : Value} {T : ByteArray} {kk : Nat} {st : HS} {cl : Bool} (h : Duo w wr B b t m v T kk st cl) (q : Nat) : Duo w (wr.drewN q) B b t m v T kk st cl :=
  ⟨h.hb.below (below_drewN (Below.refl _ _) q), h.rf, h.rest, h.le, h.told, h.wt, h.n, h.sk, h.lo, h.hV, h.hm⟩
theorem duo_new {w w1 : World} {B b t : Nat} (h : HB w w1 B b t (.slice none 0 0) hs0 false) (hV : 0 < B) : Duo w (w1.alloc (refO ⟨#[]⟩ 0 0 0 0 false)) B b t w1.heap.size (.slice none 0 0) ⟨#[]⟩ 0 hs0 false :=
  ⟨h.below ((Below.refl _ w1).alloc (Nat.le_refl _) _), heap_alloc_new w1 _, rfl, Nat.le_refl _, rfl, .inl rfl, by decide, by decide, by decide, hV, h.le⟩

/-- Both, behind the hunter's piece: the document's is still to go. -/
structure Mid (w wr : World) (B b t m : Nat) (v : Value) (T : ByteArray) (kk n sk lo : Nat) (s : HS) (cl : Bool) (vg : Value) (lg : List Im) : Prop where
  hb : HB w wr B b t v s cl
  rf : wr.heap[m]? = some (refO T kk n sk lo cl)
  go : s = (HS.mk [] (T.data.toList.drop kk) n sk lo).go cl
  got : OwnI B 0 wr vg lg
  tl : lg.map Im.it = s.told
  le : kk ≤ T.size
  hn : n ≤ 4294967296
  hsk : sk + (T.size - kk) ≤ T.size
  hlo : lo ≤ n
  hV : 0 < B
  hm : B ≤ m
theorem Mid.drewN {w wr : World} {B b t m : Nat} {v : Value} {T : ByteArray} {kk n sk lo : Nat} {s : HS} {cl : Bool} {vg : Value} {lg : List Im} (h : Mid w wr B b t m v T kk n sk lo s cl vg lg) (q : Nat) : Mid w (wr.drewN q) B b t m v T kk n sk lo s cl vg lg :=
  ⟨h.hb.below (below_drewN (Below.refl _ _) q), h.rf, h.go, h.got.below (below_drewN (Below.refl _ _) q), h.tl, h.le, h.hn, h.hsk, h.hlo, h.hV, h.hm⟩

/-- The document's block is of another kind. -/
theorem HB.ref {w W W' : World} {B b t m : Nat} {v : Value} {s : HS} {cl : Bool} {T : ByteArray} {kk n sk lo : Nat} {cl' : Bool} (h : HB w W B b t v s cl) (hV : 0 < B) (hm : B ≤ m) (hr : W.heap[m]? = some (refO T kk n sk lo cl')) (ho : Only W W' (fun j => j = m)) : HB w W' B b t v s cl := by
  have hT : ∀ j, j = m → Tag W j 34 := fun j e => by subst e; exact ⟨_, _, hr⟩
  have hb := ho.below h.le (fun k e => by rw [e]; exact hm)
  exact ⟨h.hu.onlyTag ho _ hT (by decide) (by decide) (by decide), h.evl.belowB hb hV, h.bel.trans hb, Nat.le_trans h.le ho.size⟩
theorem OwnI.ref {W W' : World} {B C m : Nat} {v : Value} {l : List Im} {T : ByteArray} {kk n sk lo : Nat} {cl' : Bool} (h : OwnI B C W v l) (hm : B ≤ m) (hr : W.heap[m]? = some (refO T kk n sk lo cl')) (ho : Only W W' (fun j => j = m)) : OwnI B C W' v l := by
  have hT : Tag W m 34 := ⟨_, _, hr⟩
  refine h.only ho (fun k e => ?_) (fun k e hk => ?_)
  · subst e; exact ⟨hm, fun tg => tg.ne hT (by decide) rfl⟩
  · subst e; exact (h.tag hk).2.ne hT (by decide) rfl
/-- .. and stays where the hunter is fed. -/
theorem ref_hf {W W' : World} {B b m : Nat} {T : ByteArray} {kk n sk lo : Nat} {cl' : Bool} {p : Prop} (hr : W.heap[m]? = some (refO T kk n sk lo cl')) (hb : Tag W b 60) (ho : Only W W' (HF p B b W)) : W'.heap[m]? = some (refO T kk n sk lo cl') := by
  have hT : Tag W m 34 := ⟨_, _, hr⟩
  refine (ho.block m (blk_lt hr) (fun hS => ?_)).trans hr
  rcases hS.2 with e | ⟨-, e⟩
  · exact hT.ne hb (by decide) e
  · exact hT.ne e (by decide) rfl

/-- Feed. -/
theorem Duo.feed {w wr : World} {B b t m : Nat} {v : Value} {T : ByteArray} {kk : Nat} {st : HS} (h : Duo w wr B b t m v T kk st false) (X : ByteArray) (hX : T.size + X.size ≤ 4000) :
    Calls Tryd.prog 13 #[.pointer (some ⟨b, 0, none⟩), .string X] wr fun r w' => ∃ (vg : Option Addr) (lg : List Im) (v' : Value × Nat), r = .returned (.slice vg lg.length v'.2) ∧ w'.heap[m]? = some (refO T kk st.next st.skip st.lost false) ∧ Below B w w' ∧
      ∀ q, Mid w ((w'.drewN q).setCell ⟨m, 0, none⟩ (.string (T ++ X))) B b t m v'.1 (T ++ X) kk st.next st.skip st.lost ((st.more X.data.toList).go false) false (.slice vg lg.length v'.2) lg := by
  have hsk := h.sk
  refine (hfeed_any h.hb.hu h.hb.le h.hb.evl h.hV h.told h.wt X (by omega) h.n (by omega) (by have := h.lo; have := h.n; omega)).mono ?_
  rintro r w' ⟨vt, l, v', rfl, o, hu, m1, g⟩
  obtain ⟨vg, cp, rfl⟩ := o.shape
  have hr := ref_hf h.rf h.hb.hu.tag g
  refine ⟨vg, l, (v', cp), rfl, hr, (h.hb.fed h.hV hu g).bel, fun q => ?_⟩
  have hbq := (h.hb.fed h.hV hu g).below (below_drewN (Below.refl _ _) q)
  have oq := (o.base (Nat.zero_le _)).below (below_drewN (Below.refl _ _) q)
  have ho := Only.setCell (w'.drewN q) m 0 (.string (T ++ X)) (fun j => j = m) rfl
  have hTl : (T ++ X).data.toList = T.data.toList ++ X.data.toList := app_list T X
  have hz : (T ++ X).size = T.size + X.size := ByteArray.size_append
  have hd : (T ++ X).data.toList.drop kk = T.data.toList.drop kk ++ X.data.toList := by
    rw [hTl, List.drop_append_of_le_length (by exact h.le)]
  refine ⟨hbq.ref h.hV h.hm hr ho, refset (w := w'.drewN q) hr 0 _ (by simp), ?_, oq.ref h.hm hr ho, m1, by have := h.le; omega, h.n, ?_, h.lo, h.hV, h.hm⟩
  · rw [hd, ← h.rest]
    have : HS.mk [] (st.rest ++ X.data.toList) st.next st.skip st.lost = st.more X.data.toList := by unfold HS.more; rw [h.told]
    rw [this]
  · have h1 : st.rest.length = T.size - kk := by rw [h.rest, List.length_drop]; rfl
    have := h.le
    omega
/-- Close. -/
theorem Duo.close {w wr : World} {B b t m : Nat} {v : Value} {T : ByteArray} {kk : Nat} {st : HS} (h : Duo w wr B b t m v T kk st false) (hX : T.size ≤ 4000) :
    Calls Tryd.prog 14 #[.pointer (some ⟨b, 0, none⟩)] wr fun r w' => ∃ (vg : Option Addr) (lg : List Im) (v' : Value × Nat), r = .returned (.slice vg lg.length v'.2) ∧ w'.heap[m]? = some (refO T kk st.next st.skip st.lost false) ∧
      Mid w (w'.setCell ⟨m, 5, none⟩ (.bool true)) B b t m v'.1 T kk st.next st.skip st.lost (st.go true) true (.slice vg lg.length v'.2) lg := by
  have hsk := h.sk
  refine (hclose_any h.hb.hu h.hb.le h.hb.evl h.hV h.told (by omega) h.n (by omega) (by have := h.lo; have := h.n; omega)).mono ?_
  rintro r w' ⟨vt, l, v', rfl, o, hu, m1, g⟩
  obtain ⟨vg, cp, rfl⟩ := o.shape
  have hr := ref_hf h.rf h.hb.hu.tag g
  refine ⟨vg, l, (v', cp), rfl, hr, ?_⟩
  have ho := Only.setCell w' m 5 (.bool true) (fun j => j = m) rfl
  refine ⟨(h.hb.fed h.hV hu g).ref h.hV h.hm hr ho, refset hr 5 _ (by simp), ?_, (o.base (Nat.zero_le _)).ref h.hm hr ho, m1, h.le, h.n, ?_, h.lo, h.hV, h.hm⟩
  · rw [← h.rest]
    have : HS.mk [] st.rest st.next st.skip st.lost = st := by cases st; simp only [HS.mk.injEq, and_true]; exact h.told.symm
    rw [this]
  · have h1 : st.rest.length = T.size - kk := by rw [h.rest, List.length_drop]; rfl
    have := h.le
    omega
/-- The document's hunter goes. -/
theorem Mid.run {w wr : World} {B b t m : Nat} {v : Value} {T : ByteArray} {kk n sk lo : Nat} {s : HS} {cl : Bool} {vg : Value} {lg : List Im} (h : Mid w wr B b t m v T kk n sk lo s cl vg lg) (hT : T.size ≤ 4000) :
    Calls Tryd.prog 16 #[.pointer (some ⟨m, 0, none⟩)] wr fun r w' => ∃ (vt : Option Addr) (lt : List Im) (cp k' : Nat), r = .returned (.slice vt lt.length cp) ∧ OwnI B 0 w' (.slice vt lt.length cp) lt ∧ OwnI B 0 w' vg lg ∧ lg.map Im.it = lt.map Im.it ∧ lg.length ≤ 8000 ∧ Duo w w' B b t m v T k' s.mute cl := by
  have hsk := h.hsk
  have hlo := h.hlo
  have hn := h.hn
  refine (rgo_any h.rf h.hb.le h.hm h.le (by omega) h.hn (by omega) (by omega)).mono ?_
  rintro r w' ⟨vt, l, k', rfl, o, m1, hk', hrest, hr, ho⟩
  rw [← h.go] at m1 hrest hr
  obtain ⟨va, cp, rfl⟩ := o.shape
  have sm := HS.lost_small cl (HS.mk [] (T.data.toList.drop kk) n sk lo) h.hn
  have sm2 := HS.go_small cl (HS.mk [] (T.data.toList.drop kk) n sk lo) h.hn
  rw [← h.go] at sm sm2
  have hdl : (T.data.toList.drop kk).length = T.size - kk := by rw [List.length_drop]; rfl
  simp only at sm sm2
  have hbq := h.hb.ref h.hV h.hm h.rf ho
  have hlg : lg.length ≤ 8000 := by
    have h1 : lg.length = s.told.length := by rw [← h.tl]; simp
    have h2 := sm2.2.2.2.2
    simp only [List.length_nil] at h2
    omega
  refine ⟨va, l, cp, k', rfl, o.base (Nat.zero_le _), h.got.ref h.hm h.rf ho, by rw [m1, h.tl], hlg, ⟨⟨hbq.hu.mute, hbq.evl, hbq.bel, hbq.le⟩, hr, hrest, hk', rfl, ?_, sm2.1, ?_, ?_, h.hV, h.hm⟩⟩
  · show s.rest = [] ∨ _
    cases cl with
    | true => left; rw [h.go]; exact HS.go_all _
    | false =>
      have := HS.go_waits (HS.mk [] (T.data.toList.drop kk) n sk lo)
      rw [← h.go] at this
      exact this
  · show s.skip + s.rest.length ≤ _
    omega
  · show s.lost ≤ s.next
    omega

end Go.Proofs.YtobioiicbdhboaaDoor
